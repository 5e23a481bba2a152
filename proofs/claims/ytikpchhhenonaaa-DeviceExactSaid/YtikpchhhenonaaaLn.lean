/- takeDue, becomes. -/
import Derived.Test.YtikpchhhenonaaaLm
namespace Go.Proofs.Ytikpchhhenonaaa.ln
open Go.ChangeShapes Go.WideShapes Go.ChangeAt Go.RowKit Go.Proofs.Ytikpchhhenonaaa.cx Go.Proofs.Ytikpchhhenonaaa.ra Go.Proofs.Ytikpchhhenonaaa.la Go.Proofs.Ytikpchhhenonaaa.lb Go.Proofs.Ytikpchhhenonaaa.lc Go.Proofs.Ytikpchhhenonaaa.ld Go.Proofs.Ytikpchhhenonaaa.le Go.Proofs.Ytikpchhhenonaaa.lf Go.Proofs.Ytikpchhhenonaaa.lg Go.Proofs.Ytikpchhhenonaaa.lh Go.Proofs.Ytikpchhhenonaaa.li Go.Proofs.Ytikpchhhenonaaa.lj Go.Proofs.Ytikpchhhenonaaa.lk Go.Proofs.Ytikpchhhenonaaa.ll

def dueF (d : Dev) : List Flt := d.faults.filter fun f => !(f.at' != d.writes)
def restF (d : Dev) : List Flt := d.faults.filter fun f => !(f.at' == d.writes)
theorem wp_new1W {ops : Array Oper} {rest : List Oper} {o : Oper} {a : Act} {w : World} {Q : Exit → Act → World → Prop} (ho : o.op = .alloc 3)
    (hgd : Region.wanted o (yielded ops a.tmps) = true) (h : ∀ W, RowAt w.heap.size [.int .i64 0] W → Below w.heap.size w W → w.heap.size < W.heap.size → wpList Try.prog ops Q rest (a.put o.dst (.pointer (some ⟨w.heap.size, 0, none⟩))) W) : wpList Try.prog ops Q (o :: rest) a w :=
  wpList_step fun _ hK => by
    rw [if_pos hgd]
    have hn := h _ (RowAt.new [.int .i64 0] w 3) ((Below.refl _ _).alloc (Nat.le_refl _) _) (by simp)
    have hz : (zeroValue 3).run Try.prog w = .ok (.int .i64 0) w := lf.zero_int' w
    unfold Oper.wp execOp
    simp only [ho]
    simp [Instr.alloc, hz, newVar, newRow, Value.cells]
    exact hK _ _ hn
set_option maxHeartbeats 4000000 in
set_option maxRecDepth 4000 in
theorem takeDue_any (B : Nat) (X : List Nat) (vp vu vf : Value) (d : Dev) (w : World) (h : Dv B X vp vu vf d w) (hn : d.faults.length ≤ 1000) :
    Calls Try.prog 41 #[.pointer (some ⟨B, 0, none⟩)] w fun e w' => ∃ v vf', e = .returned v ∧ w'.ownsRow w.heap.size 29 6 v (dueF d).length (fltL (dueF d)) ∧
      Dv B (v.ownBlock.toList ++ X) vp vu vf' { d with faults := restF d } w' ∧ Kp B X w w' := by
  have hBw := h.row.lt
  have HH := Lib.hid h
  have HFW := Lib.hid (fun g hg => (h.faults.lt g hg).2)
  have HN := Lib.hid (show d.faults.length ≤ 100000 by omega)
  clear h
  have eg1 : ∀ args w, (callFunc 65 args).run Try.prog w = .ok (.enter 65 args) w := fun args w => enters_of Try.func65 (by kernel_rfl) rfl args w
  have eg2 : ∀ args w, (callFunc 66 args).run Try.prog w = .ok (.enter 66 args) w := fun args w => enters_of Try.func66 (by kernel_rfl) rfl args w
  have EG1 := Lib.hid eg1
  have EG2 := Lib.hid eg2
  clear eg1 eg2
  obtain ⟨a0, a1, a2, a3, a4⟩ := HH.out.row.all5
  go_enter Try.func41, Try.ntmps41
  go_wp2_with (first
    | (refine wp_new1W rfl rfl ?_; intro w1 hP hb1 hz1; have N1 := Lib.hid hP; have B1 := Lib.hid hb1; clear a0 a1 a2 a3 a4 hP hb1)
    | (refine wp_storeFieldW 3 (.int .i64 d.writes) rfl rfl info_int1 N1.out (show 0 < 1 by decide) rfl rfl rfl rfl ?_; intro w2 hP hS; have C2 : Hid (RowAt w.heap.size [.int .i64 d.writes] w2) := Lib.hid hP; have B2 := Lib.hid (hS.below B1.out (Nat.le_refl _)); have hz2 := hP.lt; have H2 := Lib.hid (HH.out.keep B2.out); obtain ⟨a0, a1, a2, a3, a4⟩ := H2.out.row.all5; clear hP hS N1 B1)
    | (go_at_call 56; refine (clone_flt _ _ _ _ (Sl.of_own H2.out.faults) (fltL_one _) HN.out).mono ?_; rintro e w3 ⟨v1, rfl, hO, hb⟩; have hz3 := hb.size; clear a0 a1 a2 a3 a4; have B3 := Lib.hid (B2.out.trans (hb.mono B2.out.size)); have C3 := Lib.hid (C2.out.keep hb); have O3 := Lib.hid hO; have H3 := Lib.hid (HH.out.keep B3.out); clear hO hb B2 C2 H2)
    | (go_at_call 64; refine (deleteFunc_flt (fun f => f.at' != d.writes) 65 w.heap.size d.writes EG1.out (notNow_pred _ _) w2.heap.size v1 d.faults _ O3.out (C3.out.cells 0 _ rfl) (fun e => by have := (O3.out.lt _ e).1; omega) HN.out).mono ?_; rintro e w4 ⟨v, rfl, hO, hg, hb⟩; have hz4 := hg.size; have C4 := Lib.hid (C3.out.grown hg (fun e => by have := (O3.out.lt _ e).1; omega)); have B4 := Lib.hid (B3.out.grown hg B3.out.size (fun k e => by have := (O3.out.lt _ e).1; omega)); have O4 := Lib.hid hO; have H4 := Lib.hid (HH.out.keep B4.out); have VB := Lib.hid (fun g e => (O3.out.lt g (hb ▸ e)).1); obtain ⟨a0, a1, a2, a3, a4⟩ := H4.out.row.all5; clear hO hg hb B3 C3 O3 H3)
    | (go_at_call 64; refine (deleteFunc_flt (fun f => f.at' == d.writes) 66 w.heap.size d.writes EG2.out (now_pred _ _) B vf d.faults _ H4.out.faults (C4.out.cells 0 _ rfl) (fun e => Nat.lt_irrefl _ (HFW.out _ e)) HN.out).mono ?_; rintro e w5 ⟨vf', rfl, hO, hg, hb⟩; have ST := Lib.hid ((H4.out.out (Y := v.ownBlock.toList ++ X) (fun k hk => by
          rcases List.mem_append.1 hk with h1 | h1
          · have e1 : v.ownBlock = some k := by cases hv : v.ownBlock <;> rw [hv] at h1 <;> simp at h1; rw [h1]
            have h2 := VB.out k e1
            have h3 := (O4.out.lt k e1).2
            exact .inr ⟨h3, by omega, fun e2 => by have := (HH.out.pages.lt k e2).2; omega, fun e2 => by have := (HH.out.unr.lt k e2).2; omega, fun e2 => by have := (HH.out.faults.lt k e2).2; omega⟩
          · exact .inl h1)).fltStep hg (.inl rfl) hO (fun g e => .inl (by rw [← hb]; exact e))); have O5 := Lib.hid hO; have HD5 := Lib.hid ST.out.1; clear hO hg hb a0 a1 a2 a3 a4)
    | (refine wp_storeFieldW 25 vf' (cells_own O5.out) (one_own O5.out) info_flts1 HD5.out (show 4 < 5 by decide) rfl rfl rfl rfl ?_; intro w6 hP hS; have R6 := Lib.hid (ST.out.2 w6 hS hP); clear hP hS))
  go_ret
  refine ⟨v, vf', rfl, own_base (own_heap O4.out fun g e => R6.out.2.2 g (List.mem_append_left _ (by rw [e]; simp))) (by omega), R6.out.1, ?_⟩
  exact (HH.out.kp B4.out).trans ⟨R6.out.2.1, fun k hk => R6.out.2.2 k (List.mem_append_right _ hk)⟩
/-- What becomes of a write. -/
inductive What where
  | done
  | lost
  | misdirected (target : Int)
  | torn (count : Int)
def What.val : What → Value
  | .done => .iface 91 (.agg #[])
  | .lost => .iface 86 (.agg #[])
  | .misdirected n => .iface 88 (.agg #[.int .i64 n])
  | .torn n => .iface 90 (.agg #[.int .i64 n])
def whatF (f : Flt) : Option What := if f.kind = 1 then some .lost else if f.kind = 2 then some (.misdirected f.target) else if f.kind = 3 then some (.torn f.byte) else none
def becomeF : List Flt → What
  | [] => .done
  | f :: r => (whatF f).getD (becomeF r)
set_option maxHeartbeats 4000000 in
set_option maxRecDepth 4000 in
theorem becomes_any (v : Value) (l : List Flt) (w : World) (h : Sl v 6 l.length (fltL l) w) :
    Calls Try.prog 43 #[v] w fun e w' => e = .returned (becomeF l).val ∧ Below w.heap.size w w' := by
  obtain ⟨so, cap, rfl, hcap⟩ := h.form
  have hlen := Sl.len_le h
  have H3 := Lib.hid h.2.2
  clear h
  go_enter Try.func43, Try.ntmps43
  go_wp2
  go_loopw [4, 7] (fun _ s7 wr => ∃ kk : Nat, kk ≤ l.length ∧ s7 = .int .i64 kk ∧ Hid (Below w.heap.size w wr) ∧ Hid (becomeF l = becomeF (l.drop kk))) (fun _ s7 _ => l.length - (intOf s7).toNat)
  case atStart => exact ⟨0, Nat.zero_le _, rfl, Below.refl _ w, rfl⟩
  case round =>
    obtain ⟨kk, hkk, rfl, BW, A⟩ := hrel
    by_cases hlt : kk < l.length
    · have hltz : (kk : Int) < (l.length : Int) := by omega
      have q0 : (0 : Int) ≤ (kk : Int) := by omega
      obtain ⟨x, hx⟩ : ∃ x, l[kk]? = some x := ⟨_, List.getElem?_eq_getElem hlt⟩
      obtain ⟨b, off, hso, hb, HC⟩ : ∃ b off, so = some ⟨b, off, none⟩ ∧ b < w.heap.size ∧ Hid (∀ i u, (fltL l)[i]? = some u → w.cell? ⟨b, off + i, none⟩ = some u) := by
        rcases H3.out with ⟨_, h0⟩ | ⟨b, off, cap', e, _, hb, hcc⟩
        · omega
        · simp only [Value.slice.injEq, true_and] at e
          exact ⟨b, off, e.1, hb, Lib.hid hcc⟩
      subst hso
      have LC : Hid (∀ i u, x.vals[i]? = some u → wr.cell? ⟨b, off + kk * 6 + i, none⟩ = some u) := Lib.hid fun i u hu => by
        rw [BW.out.cell (p := ⟨b, off + kk * 6 + i, none⟩) hb, Nat.add_assoc]
        exact HC.out _ _ (fltL_at l kk x i u hx hu)
      have HE : Hid (becomeF l = (whatF x).getD (becomeF (l.drop (kk + 1)))) := Lib.hid (by
        have hxx : l[kk] = x := by rw [List.getElem?_eq_getElem hlt] at hx; injection hx
        rw [A.out, List.drop_eq_getElem_cons hlt, hxx]; rfl)
      clear hx
      by_cases k1 : x.kind = 1
      · have e1 : (x.kind == 1) = true := by simp [k1]
        have HE2 : Hid (becomeF l = .lost) := Lib.hid (by rw [HE.out]; unfold whatF; rw [if_pos k1]; rfl)
        clear k1
        go_wp2_with (first
          | (refine wp_loadFltAt x (off + kk * 6) LC.out rfl rfl rfl ?_)
          | (refine wp_newW flt0.vals _ zero_flt rfl rfl ?_; intro w1 hP hb1 _; have N1 := Lib.hid hP; have M1 := Lib.hid hb1; clear hP hb1 LC)
          | (refine wp_storeFltW x N1.out rfl rfl rfl rfl rfl ?_; intro w2 hP hS; obtain ⟨a0, a1, a2, a3, a4, a5⟩ := hP.all6; have B2 := Lib.hid (hS.below (BW.out.trans (M1.out.mono BW.out.size)) BW.out.size); clear hP hS N1 M1))
        go_ret
        exact ⟨by rw [HE2.out]; rfl, B2.out⟩
      by_cases k2 : x.kind = 2
      · have e1 : (x.kind == 1) = false := by simp [k1]
        have e2 : (x.kind == 2) = true := by simp [k2]
        have HE2 : Hid (becomeF l = .misdirected x.target) := Lib.hid (by rw [HE.out]; unfold whatF; rw [if_neg k1, if_pos k2]; rfl)
        clear k1 k2
        go_wp2_with (first
          | (refine wp_loadFltAt x (off + kk * 6) LC.out rfl rfl rfl ?_)
          | (refine wp_newW flt0.vals _ zero_flt rfl rfl ?_; intro w1 hP hb1 _; have N1 := Lib.hid hP; have M1 := Lib.hid hb1; clear hP hb1 LC)
          | (refine wp_storeFltW x N1.out rfl rfl rfl rfl rfl ?_; intro w2 hP hS; obtain ⟨a0, a1, a2, a3, a4, a5⟩ := hP.all6; have B2 := Lib.hid (hS.below (BW.out.trans (M1.out.mono BW.out.size)) BW.out.size); clear hP hS N1 M1))
        go_ret
        exact ⟨by rw [HE2.out]; rfl, B2.out⟩
      by_cases k3 : x.kind = 3
      · have e1 : (x.kind == 1) = false := by simp [k1]
        have e2 : (x.kind == 2) = false := by simp [k2]
        have e3 : (x.kind == 3) = true := by simp [k3]
        have HE2 : Hid (becomeF l = .torn x.byte) := Lib.hid (by rw [HE.out]; unfold whatF; rw [if_neg k1, if_neg k2, if_pos k3]; rfl)
        clear k1 k2 k3
        go_wp2_with (first
          | (refine wp_loadFltAt x (off + kk * 6) LC.out rfl rfl rfl ?_)
          | (refine wp_newW flt0.vals _ zero_flt rfl rfl ?_; intro w1 hP hb1 _; have N1 := Lib.hid hP; have M1 := Lib.hid hb1; clear hP hb1 LC)
          | (refine wp_storeFltW x N1.out rfl rfl rfl rfl rfl ?_; intro w2 hP hS; obtain ⟨a0, a1, a2, a3, a4, a5⟩ := hP.all6; have B2 := Lib.hid (hS.below (BW.out.trans (M1.out.mono BW.out.size)) BW.out.size); clear hP hS N1 M1))
        go_ret
        exact ⟨by rw [HE2.out]; rfl, B2.out⟩
      have e1 : (x.kind == 1) = false := by simp [k1]
      have e2 : (x.kind == 2) = false := by simp [k2]
      have e3 : (x.kind == 3) = false := by simp [k3]
      have HE2 : Hid (becomeF l = becomeF (l.drop (kk + 1))) := Lib.hid (by rw [HE.out]; unfold whatF; rw [if_neg k1, if_neg k2, if_neg k3]; rfl)
      clear k1 k2 k3
      go_wp2_with (first
        | (refine wp_loadFltAt x (off + kk * 6) LC.out rfl rfl rfl ?_)
        | (refine wp_newW flt0.vals _ zero_flt rfl rfl ?_; intro w1 hP hb1 _; have N1 := Lib.hid hP; have M1 := Lib.hid hb1; clear hP hb1 LC)
        | (refine wp_storeFltW x N1.out rfl rfl rfl rfl rfl ?_; intro w2 hP hS; obtain ⟨a0, a1, a2, a3, a4, a5⟩ := hP.all6; have B2 := Lib.hid (hS.below (BW.out.trans (M1.out.mono BW.out.size)) BW.out.size); clear hP hS N1 M1))
      go_roundw
      case measure => simp [intOf]; omega
      case rel => exact ⟨kk + 1, by omega, by go_num, B2, HE2⟩
    · have hltz : ¬ (kk : Int) < (l.length : Int) := by omega
      obtain rfl : kk = l.length := by omega
      go_wp2
      go_ret
      exact ⟨by rw [A.out, List.drop_length]; rfl, BW.out⟩
end Go.Proofs.Ytikpchhhenonaaa.ln
