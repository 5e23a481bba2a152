/- EntryEncodes. -/
import Derived.Test.YtiojpfljnbdonaaOw
namespace Go.Proofs.Ytiojpfljnbdonaa.oz
open Go.ChangeShapes Go.WideShapes Go.ChangeAt Go.RowKit Go.Proofs.Ytiojpfljnbdonaa.ch Go.Proofs.Ytiojpfljnbdonaa.cy Go.Proofs.Ytiojpfljnbdonaa.cx Go.Proofs.Ytiojpfljnbdonaa.ra Go.Proofs.Ytiojpfljnbdonaa.rb Go.Proofs.Ytiojpfljnbdonaa.rc Go.Proofs.Ytiojpfljnbdonaa.da Go.Proofs.Ytiojpfljnbdonaa.ea Go.Proofs.Ytiojpfljnbdonaa.eb Go.Proofs.Ytiojpfljnbdonaa.ed Go.Proofs.Ytiojpfljnbdonaa.fb Go.Proofs.Ytiojpfljnbdonaa.ka Go.Proofs.Ytiojpfljnbdonaa.kb Go.Proofs.Ytiojpfljnbdonaa.kg Go.Proofs.Ytiojpfljnbdonaa.kj Go.Proofs.Ytiojpfljnbdonaa.oa Go.Proofs.Ytiojpfljnbdonaa.os Go.Proofs.Ytiojpfljnbdonaa.ob Go.Proofs.Ytiojpfljnbdonaa.oc Go.Proofs.Ytiojpfljnbdonaa.od Go.Proofs.Ytiojpfljnbdonaa.og Go.Proofs.Ytiojpfljnbdonaa.oh Go.Proofs.Ytiojpfljnbdonaa.oi Go.Proofs.Ytiojpfljnbdonaa.oj Go.Proofs.Ytiojpfljnbdonaa.ok Go.Proofs.Ytiojpfljnbdonaa.ol Go.Proofs.Ytiojpfljnbdonaa.om Go.Proofs.Ytiojpfljnbdonaa.on Go.Proofs.Ytiojpfljnbdonaa.op Go.Proofs.Ytiojpfljnbdonaa.oq Go.Proofs.Ytiojpfljnbdonaa.ot Go.Proofs.Ytiojpfljnbdonaa.ov Go.Proofs.Ytiojpfljnbdonaa.ow
set_option linter.unusedSimpArgs false

def entL (l : List Ent) : List Value := l.flatMap Ent.vals
theorem build_e4 (a b c d : Ent) (W : World) : (Instr.buildSlice 34 4 #[(0, .agg a.arr), (1, .agg b.arr), (2, .agg c.arr), (3, .agg d.arr)]).run Try.prog W = .ok (.slice (some ⟨W.heap.size, 0, none⟩) 4 4) (W.alloc (.cells (entL [a, b, c, d]).toArray 28)) := by kernel_rfl
section
variable {o : Oper} {a : Act} {w : World} {Q : Exit → Act → World → Prop} {K : Act → World → Prop} {x0 x1 x2 x3 x : Operand} {ops : Array Oper} {rest : List Oper} {b : Nat}
theorem op_buildE4 (e0 e1 e2 e3 : Ent) (ho : o.op = .buildSlice 34 4 #[(0, x0), (1, x1), (2, x2), (3, x3)]) (h0 : a.eval x0 = .agg e0.arr) (h1 : a.eval x1 = .agg e1.arr) (h2 : a.eval x2 = .agg e2.arr) (h3 : a.eval x3 = .agg e3.arr)
    (h : ∀ W, RowAt w.heap.size (entL [e0, e1, e2, e3]) W → Below w.heap.size w W → w.heap.size < W.heap.size → K (a.put o.dst (.slice (some ⟨w.heap.size, 0, none⟩) 4 4)) W) : o.wp Try.prog a w K Q := by
  have hn := h _ (RowAt.new (entL [e0, e1, e2, e3]) w 28) ((Below.refl _ _).alloc (Nat.le_refl _) _) (by simp)
  have hb := build_e4 e0 e1 e2 e3 w
  unfold Oper.wp execOp
  simp only [ho]
  simp only [List.map_toArray, List.map_cons, List.map_nil, h0, h1, h2, h3, hb, Sem.run_bind, Result.andThen_ok, Sem.run_pure]
  exact hn
theorem wp_loadEntAt (e : Ent) (off : Nat) (h : ∀ i u, e.vals[i]? = some u → w.cell? ⟨b, off + i, none⟩ = some u) (ho : o.op = .load 28 x)
    (hx : a.eval x = .pointer (some ⟨b, off, none⟩)) (hgd : Region.wanted o (yielded ops a.tmps) = true) (hn : wpList Try.prog ops Q rest (a.put o.dst (.agg e.arr)) w) : wpList Try.prog ops Q (o :: rest) a w :=
  wpList_step fun _ hK => by
    rw [if_pos hgd]
    exact wp_load_mid _ x ho b off hx e.vals _ (fun j v hv => h j v hv) Try.underlying28 rfl info_ent (hK _ _ hn)
end
theorem entL_at : ∀ (l : List Ent) (i : Nat) (hi : i < l.length) (k : Nat) (u : Value), l[i].vals[k]? = some u → (entL l)[i * 13 + k]? = some u
  | [], i, hi, _, _, _ => absurd hi (Nat.not_lt_zero _)
  | e :: l, 0, _, k, u, h => by
    have hk : k < 13 := by
      rcases Nat.lt_or_ge k e.vals.length with h1 | h1
      · exact h1
      · rw [List.getElem_cons_zero, List.getElem?_eq_none h1] at h; cases h
    show (e.vals ++ entL l)[0 * 13 + k]? = some u
    rw [Nat.zero_mul, Nat.zero_add, List.getElem?_append_left (by rw [evals_length]; omega)]
    exact h
  | e :: l, i + 1, hi, k, u, h => by
    show (e.vals ++ entL l)[(i + 1) * 13 + k]? = some u
    rw [List.getElem?_append_right (by rw [evals_length]; omega), evals_length, show (i + 1) * 13 + k - 13 = i * 13 + k from by omega]
    exact entL_at l i (by simpa using hi) k u h
theorem ent_at {b : Nat} {l : List Ent} {w : World} (h : RowAt b (entL l) w) {i : Nat} (hi : i < l.length) (hl : ∀ e ∈ l, FitsE e) : ∃ e : Ent, FitsE e ∧ ∀ k u, e.vals[k]? = some u → w.cell? ⟨b, i * 13 + k, none⟩ = some u :=
  ⟨l[i], hl _ (List.getElem_mem hi), fun k u hu => h.cells _ _ (entL_at l i hi k u hu)⟩
theorem enc_facts (e : Ent) (hf : FitsE e) : ∃ (u : ByteArray) (n : Int) (v c : Bool), Hid (EncIs e u n) ∧ Hid (REncIs e u n) ∧ Hid (Says 14 #[.agg e.arr] v) ∧ Hid (Says 15 #[.agg e.arr] v) ∧ Hid (Says 16 #[.agg e.arr] c) ∧ Hid (Says 17 #[.agg e.arr] c) :=
  ⟨encS e, encE e, validE e, changesB e, Lib.hid fun w => encode_any e w hf, Lib.hid fun w => refEncode_any e w hf, Lib.hid fun w => od.valid_any e w hf, Lib.hid fun w => refValid_any e w hf, Lib.hid fun w => changes_any e w, Lib.hid fun w => refChanges_any e w⟩
set_option maxRecDepth 4000 in
set_option maxHeartbeats 8000000 in
theorem encodes_walk (so : Option Addr) (len cap : Nat) (raw : Ent) (w : World) (hf : FitsE raw) (hin : BytesIn so len w) (hl : len ≤ 9223372036854775807) (hc : len ≤ cap) :
    Calls Try.prog 3 #[.slice so len cap, .agg raw.arr] w fun e w' => e = .returned (.bool true) ∧ Below w.heap.size w w' := by
  have HU : Hid True := Lib.hid trivial
  by_cases h6 : 20000 < raw.blob.size
  · have d6 : decide (20000 < raw.blob.size) = true := by simpa using h6
    go_enter Try.func3, Try.ntmps3
    go_wp2_with (first
      | (clear HU; refine wp_boxEntW raw rfl rfl rfl ?_; intro w0 hE hb0 z0; have R0 := Lib.hid hE; have HB0 := Lib.hid hb0; have HI0 := Lib.hid (bytesIn_below hin hb0); clear hE hb0)
      | (go_at_call 8; refine (awake_any _).mono ?_; rintro e1 w1 ⟨rfl, hb⟩; have HI := Lib.hid (bytesIn_below HI0.out hb); have R1 := Lib.hid (RowAt.keep R0.out hb); have HB1 := Lib.hid (HB0.out.trans (hb.mono HB0.out.size)); have le1 := HB1.out.size; have lr1 := R1.out.lt; have a12 := R1.out.cells 12 _ rfl; clear hb R0 HB0 HI0))
    go_ret
    exact ⟨rfl, HB1.out⟩
  have d6 : decide (20000 < raw.blob.size) = false := by simpa using h6
  have hs6 : raw.blob.size ≤ 20000 := by omega
  have HF := Lib.hid hf
  clear h6 hf
  go_enter Try.func3, Try.ntmps3
  go_upto_region 5 with (first
    | (clear HU; refine wp_boxEntW raw rfl rfl rfl ?_; intro w0 hE hb0 z0; have R0 := Lib.hid hE; have HB0 := Lib.hid hb0; have HI0 := Lib.hid (bytesIn_below hin hb0); clear hE hb0)
    | (go_at_call 8; refine (awake_any _).mono ?_; rintro e1 w1 ⟨rfl, hb⟩; have HI := Lib.hid (bytesIn_below HI0.out hb); have R1 := Lib.hid (RowAt.keep R0.out hb); have HB1 := Lib.hid (HB0.out.trans (hb.mono HB0.out.size)); have le1 := HB1.out.size; have lr1 := R1.out.lt; have a12 := R1.out.cells 12 _ rfl; clear hb R0 HB0 HI0)
    | (go_at_call 9; refine (new_is so len cap 100 100 rfl _ HI.out hl hc (by decide)).mono ?_; rintro e2 w2 ⟨rfl, hC, hb, hz⟩; have C2 := Lib.hid hC; have R2 := Lib.hid (RowAt.keep R1.out hb); have HB2 := Lib.hid (HB1.out.trans (hb.mono HB1.out.size)); clear hC hb hz HB1 HI R1 a12)
    | (go_at_call 10; have hq := C2.out; clear hq; refine (entry_any _ _ C2.out).mono ?_; rintro e3 w3 ⟨x, rfl, hd, hC, hg⟩; have HFX := Lib.hid (drawn_fitsE hd); have R3 := Lib.hid (RowAt.grown R2.out hg (fun e => by injection e; omega)); have px := cod_lt hC; have C3 := Lib.hid hC; have HB3 := Lib.hid (below_row HB2.out hg le1); have lr3 := R3.out.lt; clear hC hg hd HB2 C2 R2)
    | (have hq := C3.out; clear hq; refine wp_newEntW rfl rfl ?_; intro w4 hE hb z4; have X4 := Lib.hid hE; have R4 := Lib.hid (RowAt.keep R3.out hb); have C4 := Lib.hid (cod_keep C3.out hb); have HB4 := Lib.hid (HB3.out.trans (hb.mono HB3.out.size)); clear hE hb R3 C3 HB3)
    | (refine wp_storeEntW x X4.out (evals_length _) rfl rfl rfl rfl ?_; intro w5 hE hS; have R5 := Lib.hid (StoredAt.row hS R4.out (by omega)); have C5 := Lib.hid (storedAt_cod hS C4.out (by omega)); have HB5 := Lib.hid (StoredAt.below hS HB4.out (by omega)); have X5 := Lib.hid hE; clear hE hS X4 R4 C4 HB4))
  have HS := Lib.hid (St.add (St.add (st_nil (w := w) HB5.out) R5.out) X5.out)
  have CD := Lib.hid (Cod.drew C5.out)
  clear C5 R5 X5 HB5
  refine wp_region_held_drew (S := St [(w3.heap.size, (Ent.vals x)), (w.heap.size, (Ent.vals raw))] w) (by kernel_rfl) (St.drew HS.out) (fun hHeld => ?_)
  refine wpAnyH_take (i := 0) (v := (.agg (Ent.arr raw))) rfl (by kernel_rfl) (by kernel_rfl) (by kernel_rfl) (fun _ _ _ h => h) (yieldsIf_load_mid (by rfl) 28 _ rfl w.heap.size 0 rfl (Ent.vals raw) _ (fun W hSw => RowAt.range (St.row hSw (b := w.heap.size) (vs := (Ent.vals raw)) (by simp)) 0 (fun j v hv => by rw [Nat.zero_add]; exact hv)) Try.underlying28 rfl info_ent) (by assumption) ?_
  try simp only [Act.put, List.getElem_toArray, List.getElem_cons_zero, List.setIfInBounds_toArray, List.set_cons_zero, List.set_cons_succ]
  refine wpAnyH_take (i := 1) (v := (.agg (Ent.arr x))) rfl (by kernel_rfl) (by kernel_rfl) (by kernel_rfl) (fun _ _ _ h => h) (yieldsIf_load_mid (by rfl) 28 _ rfl w3.heap.size 0 rfl (Ent.vals x) _ (fun W hSw => RowAt.range (St.row hSw (b := w3.heap.size) (vs := (Ent.vals x)) (by simp)) 0 (fun j v hv => by rw [Nat.zero_add]; exact hv)) Try.underlying28 rfl info_ent) (by assumption) ?_
  try simp only [Act.put, List.getElem_toArray, List.getElem_cons_zero, List.getElem_cons_succ, List.setIfInBounds_toArray, List.set_cons_zero, List.set_cons_succ]
  refine wpAnyH_take (i := 2) (v := ?_) rfl (by kernel_rfl) (by kernel_rfl) (by kernel_rfl) (fun _ _ _ h => h) (Or.inl ⟨by rfl, ?_⟩) (by assumption) ?_
  rotate_left
  · (intro W _; go_simp; try with_reducible rfl)
  try simp only [Act.put, List.getElem_toArray, List.getElem_cons_zero, List.getElem_cons_succ, List.setIfInBounds_toArray, List.set_cons_zero, List.set_cons_succ]
  refine wpAnyH_take (i := 3) (v := (.agg (Ent.arr x))) rfl (by kernel_rfl) (by kernel_rfl) (by kernel_rfl) (fun _ _ _ h => h) (yieldsIf_load_mid (by rfl) 28 _ rfl w3.heap.size 0 rfl (Ent.vals x) _ (fun W hSw => RowAt.range (St.row hSw (b := w3.heap.size) (vs := (Ent.vals x)) (by simp)) 0 (fun j v hv => by rw [Nat.zero_add]; exact hv)) Try.underlying28 rfl info_ent) (by assumption) ?_
  try simp only [Act.put, List.getElem_toArray, List.getElem_cons_zero, List.getElem_cons_succ, List.setIfInBounds_toArray, List.set_cons_zero, List.set_cons_succ]
  refine wpAnyH_take (i := 5) (v := ?_) rfl (by kernel_rfl) (by kernel_rfl) (by kernel_rfl) (fun _ _ _ h => h) (Or.inl ⟨by rfl, ?_⟩) (by assumption) ?_
  rotate_left
  · (intro W _; go_simp; try with_reducible rfl)
  try simp only [Act.put, List.getElem_toArray, List.getElem_cons_zero, List.getElem_cons_succ, List.setIfInBounds_toArray, List.set_cons_zero, List.set_cons_succ]
  refine wpAnyH_take (i := 6) (v := ?_) rfl (by kernel_rfl) (by kernel_rfl) (by kernel_rfl) (fun _ _ _ h => h) (Or.inl ⟨by rfl, ?_⟩) (by assumption) ?_
  rotate_left
  · (intro W _; go_simp; try with_reducible rfl)
  try simp only [Act.put, List.getElem_toArray, List.getElem_cons_zero, List.getElem_cons_succ, List.setIfInBounds_toArray, List.set_cons_zero, List.set_cons_succ]
  refine wpAnyH_take (i := 11) (v := ?_) rfl (by kernel_rfl) (by kernel_rfl) (by kernel_rfl) (fun _ _ _ h => h) (Or.inl ⟨by rfl, ?_⟩) (by assumption) ?_
  rotate_left
  · (intro W _; go_simp; try with_reducible rfl)
  try simp only [Act.put, List.getElem_toArray, List.getElem_cons_zero, List.getElem_cons_succ, List.setIfInBounds_toArray, List.set_cons_zero, List.set_cons_succ]
  refine wpAnyH_ready (rs := [4]) (by kernel_rfl) (by simp) (AllReadyH.cons rfl (fun K hK => ?_) AllReadyH.nil)
  go_simp
  go_wp2_with (go_at_call 11; (with_reducible refine (odd_any _ x _ CD.out HFX.out).mono ?_); rintro e W5_1 ⟨xo, rfl, hfo, hC, hg⟩)
  have C7 := Lib.hid hC
  have HFO := Lib.hid hfo
  clear hC hfo
  refine hK.out _ _ (St.grown hHeld hg (by simp; omega) (fun k e => by injection e with e; omega)) (fun hH5_2 => ?_)
  clear hK K
  try simp only [Act.put, List.getElem_toArray, List.getElem_cons_zero, List.getElem_cons_succ, List.setIfInBounds_toArray, List.set_cons_zero, List.set_cons_succ]
  refine wpAnyH_ready (rs := [7]) (by kernel_rfl) (by simp) (AllReadyH.cons rfl (fun K hK => ?_) AllReadyH.nil)
  go_simp
  go_wp2_with (go_at_call 10; (with_reducible refine (entry_any _ _ C7.out).mono ?_); rintro e W5_3 ⟨x2, rfl, hd2, hC, hg⟩)
  have C8 := Lib.hid hC
  have HF2 := Lib.hid (drawn_fitsE hd2)
  clear hC hd2
  refine hK.out _ _ (St.grown hH5_2 hg (by simp; omega) (fun k e => by injection e with e; omega)) (fun hH5_4 => ?_)
  clear hK K
  try simp only [Act.put, List.getElem_toArray, List.getElem_cons_zero, List.getElem_cons_succ, List.setIfInBounds_toArray, List.set_cons_zero, List.set_cons_succ]
  refine wpAnyH_ready (rs := [8]) (by kernel_rfl) (by simp) (AllReadyH.cons rfl (fun K hK => ?_) AllReadyH.nil)
  go_simp
  go_wp2_with (go_at_call 11; (with_reducible refine (odd_any _ x2 _ C8.out HF2.out).mono ?_); rintro e W5_5 ⟨xp, rfl, hfp, hC, hg⟩)
  have HFP := Lib.hid hfp
  clear hC hfp
  refine hK.out _ _ (St.grown hH5_4 hg (by simp; omega) (fun k e => by injection e with e; omega)) (fun hH5_6 => ?_)
  clear hK K
  try simp only [Act.put, List.getElem_toArray, List.getElem_cons_zero, List.getElem_cons_succ, List.setIfInBounds_toArray, List.set_cons_zero, List.set_cons_succ]
  refine wpAnyH_ready (rs := [9]) (by kernel_rfl) (by simp) (AllReadyH.cons rfl (fun K hK => ?_) AllReadyH.nil)
  have lw := And.right hH5_6 |>.size
  simp only [List.getElem_toArray, List.getElem_cons_zero, List.getElem_cons_succ]
  rw [if_pos (by rfl)]
  with_reducible refine op_buildE4 raw x xo xp (by rfl) ?_ ?_ ?_ ?_ (fun W5_7 hR hb z9 => ?_)
  · rfl
  · rfl
  · rfl
  · rfl
  have R9 := Lib.hid hR
  have HB9 := Lib.hid ((And.right hH5_6).trans (hb.mono (And.right hH5_6).size))
  refine hK.out _ _ (St.keep hH5_6 hb) (fun hH5_8 => ?_)
  clear hK K
  try simp only [Act.put, List.getElem_toArray, List.getElem_cons_zero, List.getElem_cons_succ, List.setIfInBounds_toArray, List.set_cons_zero, List.set_cons_succ]
  refine wpAnyH_take (i := 10) (v := ?_) rfl (by kernel_rfl) (by kernel_rfl) (by kernel_rfl) (fun _ _ _ h => h) (Or.inl ⟨by rfl, ?_⟩) (by assumption) ?_
  rotate_left
  · (intro W _; go_simp; try with_reducible rfl)
  try simp only [Act.put, List.getElem_toArray, List.getElem_cons_zero, List.getElem_cons_succ, List.setIfInBounds_toArray, List.set_cons_zero, List.set_cons_succ]
  refine wpAnyH_done (by kernel_rfl) ?_ _
  go_upto_region 6 with (fail)
  have hL : ∀ e ∈ [raw, x, xo, xp], FitsE e := by
    intro e he
    simp only [List.mem_cons, List.not_mem_nil, or_false] at he
    rcases he with rfl | rfl | rfl | rfl
    · exact HF.out
    · exact HFX.out
    · exact HFO.out
    · exact HFP.out
  generalize hLL : [raw, x, xo, xp] = L at hL R9
  have hLn : L.length = 4 := by rw [← hLL]; rfl
  have HL := Lib.hid hL
  have HLN := Lib.hid hLn
  clear hL hLL hLn d6 lw
  go_loopw [40] (fun s40 wr => ∃ j : Nat, j ≤ 4 ∧ s40 = .int .i64 (j : Int) ∧ Hid (RowAt W5_5.heap.size (entL L) wr) ∧ Hid (Below w.heap.size w wr)) (fun s40 _ => 4 - (intOf s40).toNat)
  case atStart => exact ⟨0, by omega, rfl, R9, HB9⟩
  case round =>
    clear R9 HB9
    obtain ⟨j, hj, rfl, R, B⟩ := hrel
    by_cases hj6 : j < 4
    rotate_left
    · have q2 : ¬ (j : Int) < 4 := by omega
      go_wp2_with fail
      go_ret
      exact ⟨rfl, B.out⟩
    have q2 : (0 : Int) ≤ (j : Int) := by omega
    have q3 : (j : Int) < 4 := by omega
    obtain ⟨e, hfe, hz⟩ := ent_at R.out (i := j) (by have := HLN.out; omega) HL.out
    have HZ := Lib.hid hz
    obtain ⟨u, n, v, c, HE, HR, HV, HRV, HC, HRC⟩ := enc_facts e hfe
    have qn : (n != n) = false := by simp
    have qv : (v != v) = false := by simp
    have qc : (c != c) = false := by simp
    have qu : (u.toList != u.toList) = false := by simp
    have lR := R.out.lt
    have lB := B.out.size
    clear hz hfe
    go_upto_region 10 with (first
      | (refine wp_loadEntAt e (j * 13) HZ.out rfl rfl rfl ?_)
      | (have hq := HZ.out; clear hq HZ; refine wp_newEntW rfl rfl ?_; intro w11 hE hb z11; have E11 := Lib.hid hE; have R11 := Lib.hid (RowAt.keep R.out hb); have B11 := Lib.hid (B.out.trans (hb.mono B.out.size)); clear hE hb R B)
      | (refine wp_storeEntW e E11.out (evals_length _) rfl rfl rfl rfl ?_; intro w12 hE hS; have E12 := Lib.hid hE; have R12 := Lib.hid (StoredAt.row hS R11.out (by omega)); have B12 := Lib.hid (StoredAt.below hS B11.out (by omega)); clear hE hS E11 R11 B11)
      | (refine wp_loadEnt e E12.out rfl rfl rfl ?_)
      | (go_at_call 12; (with_reducible refine (HE.out _).mono ?_); rintro e13 w13 ⟨rfl, hb⟩; have E13 := Lib.hid (RowAt.keep E12.out hb); have R13 := Lib.hid (RowAt.keep R12.out hb); have B13 := Lib.hid (B12.out.trans (hb.mono B12.out.size)); clear hb E12 R12 B12)
      | (refine wp_loadEnt e E13.out rfl rfl rfl ?_)
      | (go_at_call 13; (with_reducible refine (HR.out _).mono ?_); rintro e14 w14 ⟨rfl, hb⟩; have E14 := Lib.hid (RowAt.keep E13.out hb); have R14 := Lib.hid (RowAt.keep R13.out hb); have B14 := Lib.hid (B13.out.trans (hb.mono B13.out.size)); clear hb E13 R13 B13))
    have HSS := Lib.hid (St.add (St.add (st_nil (w := w) B14.out) R14.out) E14.out)
    clear R14 E14 B14
    refine wp_region_held_drew (S := St [(wr.heap.size, (Ent.vals e)), (W5_5.heap.size, (entL L))] w) (by kernel_rfl) (St.drew HSS.out) (fun hHeld => ?_)
    refine wpAnyH_take (i := 0) (v := ?_) rfl (by kernel_rfl) (by kernel_rfl) (by kernel_rfl) (fun _ _ _ h => h) (Or.inl ⟨by rfl, ?_⟩) (by assumption) ?_
    rotate_left
    · (intro W _; go_simp; try with_reducible rfl)
    try simp only [Act.put, List.getElem_toArray, List.getElem_cons_zero, List.setIfInBounds_toArray, List.set_cons_zero, List.set_cons_succ]
    refine wpAnyH_take (i := 1) (v := ?_) rfl (by kernel_rfl) (by kernel_rfl) (by kernel_rfl) (fun _ _ _ h => h) (Or.inl ⟨by rfl, ?_⟩) (by assumption) ?_
    rotate_left
    · (intro W _; go_simp; try with_reducible rfl)
    try simp only [Act.put, List.getElem_toArray, List.getElem_cons_zero, List.getElem_cons_succ, List.setIfInBounds_toArray, List.set_cons_zero, List.set_cons_succ]
    refine wpAnyH_take (i := 2) (v := ?_) rfl (by kernel_rfl) (by kernel_rfl) (by kernel_rfl) (fun _ _ _ h => h) (Or.inl ⟨by rfl, ?_⟩) (by assumption) ?_
    rotate_left
    · (intro W _; go_simp; try with_reducible rfl)
    try simp only [Act.put, List.getElem_toArray, List.getElem_cons_zero, List.getElem_cons_succ, List.setIfInBounds_toArray, List.set_cons_zero, List.set_cons_succ]
    refine wpAnyH_take (i := 3) (v := ?_) rfl (by kernel_rfl) (by kernel_rfl) (by kernel_rfl) (fun _ _ _ h => h) (Or.inl ⟨by rfl, ?_⟩) (by assumption) ?_
    rotate_left
    · (intro W _; go_simp; try with_reducible rfl)
    try simp only [Act.put, List.getElem_toArray, List.getElem_cons_zero, List.getElem_cons_succ, List.setIfInBounds_toArray, List.set_cons_zero, List.set_cons_succ]
    refine wpAnyH_take (i := 4) (v := ?_) rfl (by kernel_rfl) (by kernel_rfl) (by kernel_rfl) (fun _ _ _ h => h) (Or.inl ⟨by rfl, ?_⟩) (by assumption) ?_
    rotate_left
    · (intro W _; go_simp; try with_reducible rfl)
    try simp only [Act.put, List.getElem_toArray, List.getElem_cons_zero, List.getElem_cons_succ, List.setIfInBounds_toArray, List.set_cons_zero, List.set_cons_succ]
    refine wpAnyH_take (i := 5) (v := ?_) rfl (by kernel_rfl) (by kernel_rfl) (by kernel_rfl) (fun _ _ _ h => h) (Or.inl ⟨by rfl, ?_⟩) (by assumption) ?_
    rotate_left
    · (intro W _; go_simp; try with_reducible rfl)
    try simp only [Act.put, List.getElem_toArray, List.getElem_cons_zero, List.getElem_cons_succ, List.setIfInBounds_toArray, List.set_cons_zero, List.set_cons_succ]
    refine wpAnyH_take (i := 6) (v := ?_) rfl (by kernel_rfl) (by kernel_rfl) (by kernel_rfl) (fun _ _ _ h => h) (Or.inl ⟨by rfl, ?_⟩) (by assumption) ?_
    rotate_left
    · (intro W _; go_simp; try with_reducible rfl)
    try simp only [Act.put, List.getElem_toArray, List.getElem_cons_zero, List.getElem_cons_succ, List.setIfInBounds_toArray, List.set_cons_zero, List.set_cons_succ]
    refine wpAnyH_take (i := 7) (v := ?_) rfl (by kernel_rfl) (by kernel_rfl) (by kernel_rfl) (fun _ _ _ h => h) (Or.inl ⟨by rfl, ?_⟩) (by assumption) ?_
    rotate_left
    · (intro W _; go_simp; try with_reducible rfl)
    try simp only [Act.put, List.getElem_toArray, List.getElem_cons_zero, List.getElem_cons_succ, List.setIfInBounds_toArray, List.set_cons_zero, List.set_cons_succ]
    refine wpAnyH_take (i := 8) (v := ?_) rfl (by kernel_rfl) (by kernel_rfl) (by kernel_rfl) (fun _ _ _ h => h) (Or.inl ⟨by rfl, ?_⟩) (by assumption) ?_
    rotate_left
    · (intro W _; go_simp; try with_reducible rfl)
    try simp only [Act.put, List.getElem_toArray, List.getElem_cons_zero, List.getElem_cons_succ, List.setIfInBounds_toArray, List.set_cons_zero, List.set_cons_succ]
    refine wpAnyH_take (i := 9) (v := (.agg (Ent.arr e))) rfl (by kernel_rfl) (by kernel_rfl) (by kernel_rfl) (fun _ _ _ h => h) (yieldsIf_load_mid (by rfl) 28 _ rfl wr.heap.size 0 rfl (Ent.vals e) _ (fun W hSw => RowAt.range (St.row hSw (b := wr.heap.size) (vs := (Ent.vals e)) (by simp)) 0 (fun j v hv => by rw [Nat.zero_add]; exact hv)) Try.underlying28 rfl info_ent) (by assumption) ?_
    try simp only [Act.put, List.getElem_toArray, List.getElem_cons_zero, List.getElem_cons_succ, List.setIfInBounds_toArray, List.set_cons_zero, List.set_cons_succ]
    refine wpAnyH_take (i := 11) (v := (.agg (Ent.arr e))) rfl (by kernel_rfl) (by kernel_rfl) (by kernel_rfl) (fun _ _ _ h => h) (yieldsIf_load_mid (by rfl) 28 _ rfl wr.heap.size 0 rfl (Ent.vals e) _ (fun W hSw => RowAt.range (St.row hSw (b := wr.heap.size) (vs := (Ent.vals e)) (by simp)) 0 (fun j v hv => by rw [Nat.zero_add]; exact hv)) Try.underlying28 rfl info_ent) (by assumption) ?_
    try simp only [Act.put, List.getElem_toArray, List.getElem_cons_zero, List.getElem_cons_succ, List.setIfInBounds_toArray, List.set_cons_zero, List.set_cons_succ]
    refine wpAnyH_ready (rs := [10]) (by kernel_rfl) (by simp) (AllReadyH.cons rfl (fun K hK => ?_) AllReadyH.nil)
    go_simp
    go_wp2_with (go_at_call 14; (with_reducible refine (HV.out _).mono ?_); rintro e W10_1 ⟨rfl, hb10_3⟩)
    refine hK.out _ _ (St.keep hHeld hb10_3) (fun hH10_2 => ?_)
    clear hK K
    try simp only [Act.put, List.getElem_toArray, List.getElem_cons_zero, List.getElem_cons_succ, List.setIfInBounds_toArray, List.set_cons_zero, List.set_cons_succ]
    refine wpAnyH_ready (rs := [12]) (by kernel_rfl) (by simp) (AllReadyH.cons rfl (fun K hK => ?_) AllReadyH.nil)
    go_simp
    go_wp2_with (go_at_call 15; (with_reducible refine (HRV.out _).mono ?_); rintro e W10_4 ⟨rfl, hb10_6⟩)
    refine hK.out _ _ (St.keep hH10_2 hb10_6) (fun hH10_5 => ?_)
    clear hK K
    try simp only [Act.put, List.getElem_toArray, List.getElem_cons_zero, List.getElem_cons_succ, List.setIfInBounds_toArray, List.set_cons_zero, List.set_cons_succ]
    refine wpAnyH_take (i := 13) (v := ?_) rfl (by kernel_rfl) (by kernel_rfl) (by kernel_rfl) (fun _ _ _ h => h) (Or.inl ⟨by rfl, ?_⟩) (by assumption) ?_
    rotate_left
    · (intro W _; go_simp; try with_reducible rfl)
    try simp only [Act.put, List.getElem_toArray, List.getElem_cons_zero, List.getElem_cons_succ, List.setIfInBounds_toArray, List.set_cons_zero, List.set_cons_succ]
    refine wpAnyH_take (i := 14) (v := ?_) rfl (by kernel_rfl) (by kernel_rfl) (by kernel_rfl) (fun _ _ _ h => h) (Or.inl ⟨by rfl, ?_⟩) (by assumption) ?_
    rotate_left
    · (intro W _; go_simp; try with_reducible rfl)
    try simp only [Act.put, List.getElem_toArray, List.getElem_cons_zero, List.getElem_cons_succ, List.setIfInBounds_toArray, List.set_cons_zero, List.set_cons_succ]
    refine wpAnyH_take (i := 15) (v := ?_) rfl (by kernel_rfl) (by kernel_rfl) (by kernel_rfl) (fun _ _ _ h => h) (Or.inl ⟨by rfl, ?_⟩) (by assumption) ?_
    rotate_left
    · (intro W _; go_simp; try with_reducible rfl)
    try simp only [Act.put, List.getElem_toArray, List.getElem_cons_zero, List.getElem_cons_succ, List.setIfInBounds_toArray, List.set_cons_zero, List.set_cons_succ]
    refine wpAnyH_take (i := 16) (v := (.agg (Ent.arr e))) rfl (by kernel_rfl) (by kernel_rfl) (by kernel_rfl) (fun _ _ _ h => h) (yieldsIf_load_mid (by rfl) 28 _ rfl wr.heap.size 0 rfl (Ent.vals e) _ (fun W hSw => RowAt.range (St.row hSw (b := wr.heap.size) (vs := (Ent.vals e)) (by simp)) 0 (fun j v hv => by rw [Nat.zero_add]; exact hv)) Try.underlying28 rfl info_ent) (by assumption) ?_
    try simp only [Act.put, List.getElem_toArray, List.getElem_cons_zero, List.getElem_cons_succ, List.setIfInBounds_toArray, List.set_cons_zero, List.set_cons_succ]
    refine wpAnyH_take (i := 18) (v := (.agg (Ent.arr e))) rfl (by kernel_rfl) (by kernel_rfl) (by kernel_rfl) (fun _ _ _ h => h) (yieldsIf_load_mid (by rfl) 28 _ rfl wr.heap.size 0 rfl (Ent.vals e) _ (fun W hSw => RowAt.range (St.row hSw (b := wr.heap.size) (vs := (Ent.vals e)) (by simp)) 0 (fun j v hv => by rw [Nat.zero_add]; exact hv)) Try.underlying28 rfl info_ent) (by assumption) ?_
    try simp only [Act.put, List.getElem_toArray, List.getElem_cons_zero, List.getElem_cons_succ, List.setIfInBounds_toArray, List.set_cons_zero, List.set_cons_succ]
    refine wpAnyH_ready (rs := [17]) (by kernel_rfl) (by simp) (AllReadyH.cons rfl (fun K hK => ?_) AllReadyH.nil)
    go_simp
    go_wp2_with (go_at_call 16; (with_reducible refine (HC.out _).mono ?_); rintro e W10_7 ⟨rfl, hb10_9⟩)
    refine hK.out _ _ (St.keep hH10_5 hb10_9) (fun hH10_8 => ?_)
    clear hK K
    try simp only [Act.put, List.getElem_toArray, List.getElem_cons_zero, List.getElem_cons_succ, List.setIfInBounds_toArray, List.set_cons_zero, List.set_cons_succ]
    refine wpAnyH_ready (rs := [19]) (by kernel_rfl) (by simp) (AllReadyH.cons rfl (fun K hK => ?_) AllReadyH.nil)
    go_simp
    go_wp2_with (go_at_call 17; (with_reducible refine (HRC.out _).mono ?_); rintro e W10_10 ⟨rfl, hb10_12⟩)
    refine hK.out _ _ (St.keep hH10_8 hb10_12) (fun hH10_11 => ?_)
    clear hK K
    try simp only [Act.put, List.getElem_toArray, List.getElem_cons_zero, List.getElem_cons_succ, List.setIfInBounds_toArray, List.set_cons_zero, List.set_cons_succ]
    refine wpAnyH_take (i := 20) (v := ?_) rfl (by kernel_rfl) (by kernel_rfl) (by kernel_rfl) (fun _ _ _ h => h) (Or.inl ⟨by rfl, ?_⟩) (by assumption) ?_
    rotate_left
    · (intro W _; go_simp; try with_reducible rfl)
    try simp only [Act.put, List.getElem_toArray, List.getElem_cons_zero, List.getElem_cons_succ, List.setIfInBounds_toArray, List.set_cons_zero, List.set_cons_succ]
    refine wpAnyH_take (i := 21) (v := ?_) rfl (by kernel_rfl) (by kernel_rfl) (by kernel_rfl) (fun _ _ _ h => h) (Or.inl ⟨by rfl, ?_⟩) (by assumption) ?_
    rotate_left
    · (intro W _; go_simp; try with_reducible rfl)
    try simp only [Act.put, List.getElem_toArray, List.getElem_cons_zero, List.getElem_cons_succ, List.setIfInBounds_toArray, List.set_cons_zero, List.set_cons_succ]
    refine wpAnyH_done (by kernel_rfl) ?_ _
    have RR := Lib.hid (St.row hH10_11 (b := W5_5.heap.size) (vs := entL L) (by simp))
    have BB := Lib.hid (And.right hH10_11)
    go_wp2_with fail
    go_roundw
    case measure => simp [intOf]; omega
    case rel => exact ⟨j + 1, by omega, by go_num, RR, BB⟩
end Go.Proofs.Ytiojpfljnbdonaa.oz
