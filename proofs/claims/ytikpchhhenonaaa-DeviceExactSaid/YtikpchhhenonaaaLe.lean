/- slices.IndexFunc and slices.DeleteFunc at faults and numbers; the closures that the program hands to them. -/
import Derived.Test.YtikpchhhenonaaaLd
namespace Go.Proofs.Ytikpchhhenonaaa.le
open Go.ChangeShapes Go.WideShapes Go.ChangeAt Go.RowKit Go.Proofs.Ytikpchhhenonaaa.cx Go.Proofs.Ytikpchhhenonaaa.ra Go.Proofs.Ytikpchhhenonaaa.la Go.Proofs.Ytikpchhhenonaaa.lb Go.Proofs.Ytikpchhhenonaaa.lc Go.Proofs.Ytikpchhhenonaaa.ld

theorem notNow_pred (C : Nat) (now : Int) : Pred 65 C now (fun f : Flt => .agg f.arr) (fun f => f.at' != now) := fun W f hc => by
  have hb := World.block_lt_of_cell? W _ hc
  go_enter Try.func65, Try.ntmps65
  go_wp2_with (refine wp_boxW f.vals _ rfl rfl rfl ?_; intro w0 hP hb0 hz0; have HB := Lib.hid hb0; obtain ⟨a0, a1, a2, a3, a4, a5⟩ := hP.all6; have hc' := (hb0.cell (p := ⟨C, 0, none⟩) hb).trans hc; clear hP hb0 hz0)
  trace_state
  go_ret
  exact ⟨rfl, HB.out⟩
theorem now_pred (C : Nat) (now : Int) : Pred 66 C now (fun f : Flt => .agg f.arr) (fun f => f.at' == now) := fun W f hc => by
  have hb := World.block_lt_of_cell? W _ hc
  go_enter Try.func66, Try.ntmps66
  go_wp2_with (refine wp_boxW f.vals _ rfl rfl rfl ?_; intro w0 hP hb0 hz0; have HB := Lib.hid hb0; obtain ⟨a0, a1, a2, a3, a4, a5⟩ := hP.all6; have hc' := (hb0.cell (p := ⟨C, 0, none⟩) hb).trans hc; clear hP hb0 hz0)
  go_ret
  exact ⟨rfl, HB.out⟩
theorem page_pred (C : Nat) (now : Int) : Pred 73 C now (fun n : Int => .int .i64 n) (fun n => n == now) := fun W n hc => by
  go_enter Try.func73, Try.ntmps73
  go_wp2
  go_ret
  exact ⟨rfl, Below.refl _ _⟩
set_option maxHeartbeats 2000000 in
theorem indexFunc_flt (p : Flt → Bool) (g C : Nat) (now : Int) (eg : ∀ args w, (callFunc g args).run Try.prog w = .ok (.enter g args) w) (hp : Pred g C now (fun f : Flt => .agg f.arr) p) (v : Value) (l : List Flt) (w : World) (h : Sl v 6 l.length (fltL l) w)
    (hc : w.cell? ⟨C, 0, none⟩ = some (.int .i64 now)) :
    Calls Try.prog 81 #[v, .func (.func g) #[] #[.pointer (some ⟨C, 0, none⟩)]] w fun e w' => e = .returned (.int .i64 (idxOf p l)) ∧ Below w.heap.size w w' := by
  have hCb := World.block_lt_of_cell? w _ hc
  obtain ⟨so, cap, rfl, hcap⟩ := h.form
  obtain ⟨hm, hl, h3⟩ := h
  unfold maxLen at hm
  have H3 := Lib.hid h3
  have HCC := Lib.hid hc
  have HP := Lib.hid hp
  clear h3 hl hc hp
  go_enter Try.func81, Try.ntmps81
  go_wp2
  go_loopw [5, 8] (fun _ s8 wr => ∃ kk : Nat, kk ≤ l.length ∧ s8 = .int .i64 kk ∧ Hid (Below w.heap.size w wr) ∧ Hid (∀ j y, j < kk → l[j]? = some y → p y = false)) (fun _ s8 _ => l.length - (intOf s8).toNat)
  case atStart => exact ⟨0, Nat.zero_le _, rfl, Below.refl _ w, fun j _ hj => absurd hj (Nat.not_lt_zero _)⟩
  case round =>
    obtain ⟨kk, hkk, rfl, BW, A⟩ := hrel
    by_cases hlt : kk < l.length
    · have hltz : (kk : Int) < (l.length : Int) := by omega
      have q0 : (0 : Int) ≤ (kk : Int) := by omega
      obtain ⟨x, hx⟩ : ∃ x, l[kk]? = some x := ⟨_, List.getElem?_eq_getElem hlt⟩
      obtain ⟨b, off, hso, hb, HC⟩ : ∃ b off, so = some ⟨b, off, none⟩ ∧ b < w.heap.size ∧ Hid (∀ i u, (fltL l)[i]? = some u → w.cell? ⟨b, off + i, none⟩ = some u) := by
        rcases H3.out with ⟨_, h0⟩ | ⟨b, off, cap', e, _, hb, hcc⟩
        · omega
        · simp only [Value.slice.injEq, true_and] at e
          exact ⟨b, off, e.1, hb, Lib.hid hcc⟩
      subst hso
      have LC : Hid (∀ i u, x.vals[i]? = some u → wr.cell? ⟨b, off + kk * 6 + i, none⟩ = some u) := Lib.hid fun i u hu => by
        rw [BW.out.cell (p := ⟨b, off + kk * 6 + i, none⟩) hb, Nat.add_assoc]
        exact HC.out _ _ (fltL_at l kk x i u hx hu)
      have hcall := HP.out wr x ((BW.out.cell (p := ⟨C, 0, none⟩) hCb).trans HCC.out)
      have HX := Lib.hid hx
      clear hx
      cases hq : p x with
      | true =>
        rw [hq] at hcall
        have HQ := Lib.hid hq
        clear hq
        go_wp2_with (first
        | (refine wp_loadFltAt x (off + kk * 6) LC.out rfl rfl rfl ?_)
        | (go_at_fn g; refine hcall.mono ?_; rintro e w' ⟨rfl, hb'⟩))
        go_ret
        refine ⟨?_, BW.out.trans (hb'.mono BW.out.size)⟩
        obtain ⟨e1, e2⟩ := idx_hit HX.out HQ.out A.out
        unfold idxOf
        rw [e1, if_pos e2]
        rfl
      | false =>
        rw [hq] at hcall
        have HQ := Lib.hid hq
        clear hq
        go_wp2_with (first
        | (refine wp_loadFltAt x (off + kk * 6) LC.out rfl rfl rfl ?_)
        | (go_at_fn g; refine hcall.mono ?_; rintro e w' ⟨rfl, hb'⟩))
        go_roundw
        case measure => simp [intOf]; omega
        case rel =>
          refine ⟨kk + 1, by omega, by go_num, BW.out.trans (hb'.mono BW.out.size), Lib.hid fun j y hj hy => ?_⟩
          by_cases e : j = kk
          · subst e
            rw [HX.out] at hy
            injection hy with hy
            rw [← hy]; exact HQ.out
          · exact A.out j y (by omega) hy
    · have hltz : ¬ (kk : Int) < (l.length : Int) := by omega
      obtain rfl : kk = l.length := by omega
      go_wp2
      go_ret
      refine ⟨?_, BW.out⟩
      unfold idxOf
      rw [idx_miss A.out, if_neg (Nat.lt_irrefl _)]
      rfl
set_option maxHeartbeats 2000000 in
theorem indexFunc_int (p : Int → Bool) (g C : Nat) (now : Int) (eg : ∀ args w, (callFunc g args).run Try.prog w = .ok (.enter g args) w) (hp : Pred g C now (fun n : Int => .int .i64 n) p) (v : Value) (l : List Int) (w : World) (h : Sl v 1 l.length (intL l) w)
    (hc : w.cell? ⟨C, 0, none⟩ = some (.int .i64 now)) :
    Calls Try.prog 84 #[v, .func (.func g) #[] #[.pointer (some ⟨C, 0, none⟩)]] w fun e w' => e = .returned (.int .i64 (idxOf p l)) ∧ Below w.heap.size w w' := by
  have hCb := World.block_lt_of_cell? w _ hc
  obtain ⟨so, cap, rfl, hcap⟩ := h.form
  obtain ⟨hm, hl, h3⟩ := h
  unfold maxLen at hm
  have H3 := Lib.hid h3
  have HCC := Lib.hid hc
  have HP := Lib.hid hp
  clear h3 hl hc hp
  go_enter Try.func84, Try.ntmps84
  go_wp2
  go_loopw [5, 8] (fun _ s8 wr => ∃ kk : Nat, kk ≤ l.length ∧ s8 = .int .i64 kk ∧ Hid (Below w.heap.size w wr) ∧ Hid (∀ j y, j < kk → l[j]? = some y → p y = false)) (fun _ s8 _ => l.length - (intOf s8).toNat)
  case atStart => exact ⟨0, Nat.zero_le _, rfl, Below.refl _ w, fun j _ hj => absurd hj (Nat.not_lt_zero _)⟩
  case round =>
    obtain ⟨kk, hkk, rfl, BW, A⟩ := hrel
    by_cases hlt : kk < l.length
    · have hltz : (kk : Int) < (l.length : Int) := by omega
      have q0 : (0 : Int) ≤ (kk : Int) := by omega
      obtain ⟨x, hx⟩ : ∃ x, l[kk]? = some x := ⟨_, List.getElem?_eq_getElem hlt⟩
      obtain ⟨b, off, hso, hb, HC⟩ : ∃ b off, so = some ⟨b, off, none⟩ ∧ b < w.heap.size ∧ Hid (∀ i u, (intL l)[i]? = some u → w.cell? ⟨b, off + i, none⟩ = some u) := by
        rcases H3.out with ⟨_, h0⟩ | ⟨b, off, cap', e, _, hb, hcc⟩
        · omega
        · simp only [Value.slice.injEq, true_and] at e
          exact ⟨b, off, e.1, hb, Lib.hid hcc⟩
      subst hso
      have lc : wr.cell? ⟨b, off + kk, none⟩ = some (.int .i64 x) := by
        rw [BW.out.cell (p := ⟨b, off + kk, none⟩) hb]
        exact HC.out _ _ (intL_at hx)
      have hcall := HP.out wr x ((BW.out.cell (p := ⟨C, 0, none⟩) hCb).trans HCC.out)
      have HX := Lib.hid hx
      clear hx
      cases hq : p x with
      | true =>
        rw [hq] at hcall
        have HQ := Lib.hid hq
        clear hq
        go_wp2_with (first
        | (go_at_fn g; refine hcall.mono ?_; rintro e w' ⟨rfl, hb'⟩))
        go_ret
        refine ⟨?_, BW.out.trans (hb'.mono BW.out.size)⟩
        obtain ⟨e1, e2⟩ := idx_hit HX.out HQ.out A.out
        unfold idxOf
        rw [e1, if_pos e2]
        rfl
      | false =>
        rw [hq] at hcall
        have HQ := Lib.hid hq
        clear hq
        go_wp2_with (first
        | (go_at_fn g; refine hcall.mono ?_; rintro e w' ⟨rfl, hb'⟩))
        go_roundw
        case measure => simp [intOf]; omega
        case rel =>
          refine ⟨kk + 1, by omega, by go_num, BW.out.trans (hb'.mono BW.out.size), Lib.hid fun j y hj hy => ?_⟩
          by_cases e : j = kk
          · subst e
            rw [HX.out] at hy
            injection hy with hy
            rw [← hy]; exact HQ.out
          · exact A.out j y (by omega) hy
    · have hltz : ¬ (kk : Int) < (l.length : Int) := by omega
      obtain rfl : kk = l.length := by omega
      go_wp2
      go_ret
      refine ⟨?_, BW.out⟩
      unfold idxOf
      rw [idx_miss A.out, if_neg (Nat.lt_irrefl _)]
      rfl
end Go.Proofs.Ytikpchhhenonaaa.le
