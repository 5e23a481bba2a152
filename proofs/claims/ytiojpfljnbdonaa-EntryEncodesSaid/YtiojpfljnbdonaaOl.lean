/- Decode of the program and of the reference. -/
import Derived.Test.YtiojpfljnbdonaaOk
import Derived.Test.YtiojpfljnbdonaaOg
namespace Go.Proofs.Ytiojpfljnbdonaa.ol
open Go.ChangeShapes Go.WideShapes Go.ChangeAt Go.RowKit Go.Proofs.Ytiojpfljnbdonaa.cp Go.Proofs.Ytiojpfljnbdonaa.cg Go.Proofs.Ytiojpfljnbdonaa.ch Go.Proofs.Ytiojpfljnbdonaa.cx Go.Proofs.Ytiojpfljnbdonaa.ra Go.Proofs.Ytiojpfljnbdonaa.rb Go.Proofs.Ytiojpfljnbdonaa.rc Go.Proofs.Ytiojpfljnbdonaa.da Go.Proofs.Ytiojpfljnbdonaa.ea Go.Proofs.Ytiojpfljnbdonaa.eb Go.Proofs.Ytiojpfljnbdonaa.ed Go.Proofs.Ytiojpfljnbdonaa.fb Go.Proofs.Ytiojpfljnbdonaa.ka Go.Proofs.Ytiojpfljnbdonaa.kb Go.Proofs.Ytiojpfljnbdonaa.kg Go.Proofs.Ytiojpfljnbdonaa.kj Go.Proofs.Ytiojpfljnbdonaa.oa Go.Proofs.Ytiojpfljnbdonaa.os Go.Proofs.Ytiojpfljnbdonaa.ob Go.Proofs.Ytiojpfljnbdonaa.oc Go.Proofs.Ytiojpfljnbdonaa.od Go.Proofs.Ytiojpfljnbdonaa.oe Go.Proofs.Ytiojpfljnbdonaa.of Go.Proofs.Ytiojpfljnbdonaa.og Go.Proofs.Ytiojpfljnbdonaa.oj Go.Proofs.Ytiojpfljnbdonaa.ok
set_option linter.unusedSimpArgs false

def r00 : RS := ⟨0, 0⟩
def decR (s : ByteArray) : Ent × Int :=
  if (entR s r00).2.err = 0 then (if (entR s r00).2.pos < s.size then (ent0, 4) else if validE (entR s r00).1 = true then ((entR s r00).1, 0) else (ent0, 12)) else (ent0, (entR s r00).2.err)
theorem below_row {w W W' : World} {k : Nat} (h : Below w.heap.size w W) (hg : W.grownBy W' (some k)) (hk : w.heap.size ≤ k) : Below w.heap.size w W' :=
  ((st_nil h).grown hg (fun _ hx => by cases hx) (fun j e => by injection e with e; omega)).2
theorem entR_fits (s : ByteArray) (r : RS) (hs : s.size ≤ 900000) : FitsE (entR s r).1 := by
  have h1 : ∀ r, (celR s r).1.data.size ≤ 9223372036854775807 := fun r => by have := celR_size s r; omega
  refine ⟨⟨h1 _, h1 _⟩, ?_⟩
  have := txtR_size s
  exact Nat.le_trans (this _ _) (by omega)
def rd0 : List Value := [.string ⟨#[]⟩, .int .i64 0, .int .i64 0]
theorem zero_rd (W : World) : (zeroValue 68).run Try.prog W = .ok (.agg rd0.toArray) W := by kernel_rfl
theorem info_rd : (Try.prog.info? 68).map (·.size) = some 3 := by kernel_rfl
section
variable {ops : Array Oper} {rest : List Oper} {o : Oper} {a : Act} {w : World} {Q : Exit → Act → World → Prop} {x y : Operand} {b : Nat}
theorem wp_storeRdW {vs : List Value} (s : ByteArray) (hr : RowAt b vs w) (hl : vs.length = 3) (ho : o.op = .store 68 x y)
    (hx : a.eval x = .pointer (some ⟨b, 0, none⟩)) (hy : a.eval y = .agg #[.string s, .int .i64 0, .int .i64 0]) (hgd : Region.wanted o (yielded ops a.tmps) = true) (h : ∀ W, RowAt b (rdVals s r00) W → StoredAt b w W → wpList Try.prog ops Q rest (a.put o.dst undef) W) : wpList Try.prog ops Q (o :: rest) a w := by
  have hs := RowAt.setCells (rdVals s r00) 0 hr (by rw [hl]; exact Nat.le_refl _)
  rw [splice_all _ _ (by rw [hl]; rfl)] at hs
  exact wp_store (rdVals s r00) _ hr info_rd rfl (by rw [hl]; exact Nat.le_refl _) ho hx hy hgd (h _ hs ⟨_, _, rfl⟩)
end
set_option maxRecDepth 4000 in
set_option maxHeartbeats 2000000 in
theorem decode_walk (s : ByteArray) (x : Ent) (p : Nat) (er : Int) (d : Ent) (n : Int) (_hs : s.size ≤ 900000) (hp : p ≤ s.size) (hE : ∀ b, ReadC 35 #[.pointer (some ⟨b, 0, none⟩)] b s r00 (.agg x.arr) ⟨p, er⟩)
    (hV : Says 14 #[.agg x.arr] (validE x)) (hd : (if er = 0 then (if p < s.size then (ent0, (4 : Int)) else if validE x = true then (x, 0) else (ent0, 12)) else (ent0, er)) = (d, n)) (w : World) :
    Calls Try.prog 20 #[.string s] w fun e' w' => e' = .returned (.tuple #[.agg d.arr, .int .i64 n]) ∧ Below w.heap.size w w' := by
  have HE := Lib.hid hE
  have HU : Hid True := Lib.hid trivial
  clear hE
  by_cases h0 : er = 0
  rotate_left
  · rw [if_neg h0] at hd
    obtain ⟨rfl, rfl⟩ := Prod.mk.inj hd
    have q0 : (er != 0) = true := by simpa using h0
    clear hd h0 hV
    go_enter Try.func20, Try.ntmps20
    go_upto_region 4 with (first
      | (clear HU; refine wp_newEntW rfl rfl ?_; intro w0 hR hb0 z0; have R0 := Lib.hid hR; have HB0 := Lib.hid hb0; clear hR hb0)
      | (refine wp_newW rd0 _ zero_rd rfl rfl ?_; intro w1 hD hb1 z1; have D1 := Lib.hid hD; have R1 := Lib.hid (RowAt.keep R0.out hb1); have HB1 := Lib.hid (HB0.out.trans (hb1.mono HB0.out.size)); clear hD hb1 R0 HB0)
      | (refine wp_storeRdW s D1.out rfl rfl rfl rfl rfl ?_; intro w2 hD hS; have D2 := Lib.hid hD; have R2 := Lib.hid (StoredAt.row hS R1.out (by omega)); have HB2 := Lib.hid (StoredAt.below hS HB1.out (by omega)); have y2 := hD.lt; clear hD hS D1 R1 HB1)
      | (go_at_call 35; have hq := D2.out; clear hq; (with_reducible refine (HE.out _ _ D2.out).mono ?_); rintro e1 w3 ⟨rfl, hD, hg⟩; have D3 := Lib.hid hD; have R3 := Lib.hid (RowAt.grown R2.out hg (fun e => by injection e; omega)); have HB3 := Lib.hid (below_row HB2.out hg (by omega)); have y3 := hD.lt; clear hD hg D2 R2 HB2)
      | (refine wp_newEntW rfl rfl ?_; intro w4 hE hb4 z4; have E4 := Lib.hid hE; have D4 := Lib.hid (RowAt.keep D3.out hb4); have R4 := Lib.hid (RowAt.keep R3.out hb4); have HB4 := Lib.hid (HB3.out.trans (hb4.mono HB3.out.size)); clear hE hb4 D3 R3 HB3)
      | (refine wp_storeEntW x E4.out (evals_length _) rfl rfl rfl rfl ?_; intro w5 hE hS; have E5 := Lib.hid hE; have D5 := Lib.hid (StoredAt.row hS D4.out (by omega)); have R5 := Lib.hid (StoredAt.row hS R4.out (by omega)); have HB5 := Lib.hid (StoredAt.below hS HB4.out (by omega)); obtain ⟨a0, a1, a2⟩ := rd_all D5.out; simp only at a1 a2; clear hE hS E4 D4 R4 HB4))
    have HS := Lib.hid (St.add (st_nil (w := w) HB5.out) D5.out)
    clear a0 a1 a2
    refine wp_region_held_drew (S := St [(w0.heap.size, (rdVals s ⟨p, er⟩))] w) (by kernel_rfl) (St.drew HS.out) (fun hHeld => ?_)
    have r4_1 := Lib.hid (RowAt.drew R5.out)
    refine wpAnyH_take (i := 0) (v := ?_) rfl (by kernel_rfl) (by kernel_rfl) (by kernel_rfl) (fun _ _ _ h => h) (Or.inl ⟨by rfl, ?_⟩) (by assumption) ?_
    rotate_left
    · (intro W _; go_simp; try with_reducible rfl)
    try simp only [Act.put, List.getElem_toArray, List.getElem_cons_zero, List.setIfInBounds_toArray, List.set_cons_zero, List.set_cons_succ]
    refine wpAnyH_take (i := 1) (v := ?_) rfl (by kernel_rfl) (by kernel_rfl) (by kernel_rfl) (fun _ _ _ h => h) (Or.inl ⟨by rfl, ?_⟩) (by assumption) ?_
    rotate_left
    · (intro W _; go_simp; try with_reducible rfl)
    try simp only [Act.put, List.getElem_toArray, List.getElem_cons_zero, List.getElem_cons_succ, List.setIfInBounds_toArray, List.set_cons_zero, List.set_cons_succ]
    refine wpAnyH_take (i := 2) (v := ?_) rfl (by kernel_rfl) (by kernel_rfl) (by kernel_rfl) (fun _ _ _ h => h) (Or.inl ⟨by rfl, ?_⟩) (by assumption) ?_
    rotate_left
    · (intro W hSw; have c0 := (St.row hSw (b := w0.heap.size) (vs := (rdVals s ⟨p, er⟩)) (by simp)).cells 2 _ rfl; clear hSw; go_simp; try with_reducible rfl)
    try simp only [Act.put, List.getElem_toArray, List.getElem_cons_zero, List.getElem_cons_succ, List.setIfInBounds_toArray, List.set_cons_zero, List.set_cons_succ]
    refine wpAnyH_ready (rs := [3]) (by kernel_rfl) (by simp) (AllReadyH.cons rfl (fun K hK => ?_) AllReadyH.nil)
    simp only [List.getElem_toArray, List.getElem_cons_zero, List.getElem_cons_succ]
    rw [if_pos (by rfl)]
    with_reducible refine op_storeEnt ent0 r4_1.out (evals_length _) (by rfl) ?_ ?_ (fun W4_2 hP4_4 hS4_5 => ?_)
    · rfl
    · rfl
    have r4_6 : Hid (EnAt w.heap.size ent0 W4_2) := Lib.hid hP4_4
    refine hK.out _ _ (St.stored hHeld (by simp; omega) (by omega) hS4_5) (fun hH4_3 => ?_)
    clear hK K
    simp only [Act.put, List.setIfInBounds_toArray, List.set_cons_zero, List.set_cons_succ]
    refine wpAnyH_take (i := 4) (v := ?_) rfl (by kernel_rfl) (by kernel_rfl) (by kernel_rfl) (fun _ _ _ h => h) (Or.inl ⟨by rfl, ?_⟩) (by assumption) ?_
    rotate_left
    · (intro W _; go_simp; try with_reducible rfl)
    try simp only [Act.put, List.getElem_toArray, List.getElem_cons_zero, List.getElem_cons_succ, List.setIfInBounds_toArray, List.set_cons_zero, List.set_cons_succ]
    refine wpAnyH_done (by kernel_rfl) ?_ _
    go_wp2
    exact bodyPost_ret (res_entE rfl rfl r4_6.out) rfl ⟨rfl, And.right hH4_3⟩
  subst h0
  rw [if_pos rfl] at hd
  by_cases h1 : p < s.size
  · rw [if_pos h1] at hd
    obtain ⟨rfl, rfl⟩ := Prod.mk.inj hd
    have d1 : decide (p < s.size) = true := by simpa using h1
    clear hd hV
    go_enter Try.func20, Try.ntmps20
    go_wp2_with (first
      | (clear HU; refine wp_newEntW rfl rfl ?_; intro w0 hR hb0 z0; have R0 := Lib.hid hR; have HB0 := Lib.hid hb0; clear hR hb0)
      | (refine wp_newW rd0 _ zero_rd rfl rfl ?_; intro w1 hD hb1 z1; have D1 := Lib.hid hD; have R1 := Lib.hid (RowAt.keep R0.out hb1); have HB1 := Lib.hid (HB0.out.trans (hb1.mono HB0.out.size)); clear hD hb1 R0 HB0)
      | (refine wp_storeRdW s D1.out rfl rfl rfl rfl rfl ?_; intro w2 hD hS; have D2 := Lib.hid hD; have R2 := Lib.hid (StoredAt.row hS R1.out (by omega)); have HB2 := Lib.hid (StoredAt.below hS HB1.out (by omega)); have y2 := hD.lt; clear hD hS D1 R1 HB1)
      | (go_at_call 35; have hq := D2.out; clear hq; (with_reducible refine (HE.out _ _ D2.out).mono ?_); rintro e1 w3 ⟨rfl, hD, hg⟩; have D3 := Lib.hid hD; have R3 := Lib.hid (RowAt.grown R2.out hg (fun e => by injection e; omega)); have HB3 := Lib.hid (below_row HB2.out hg (by omega)); have y3 := hD.lt; clear hD hg D2 R2 HB2)
      | (refine wp_newEntW rfl rfl ?_; intro w4 hE hb4 z4; have E4 := Lib.hid hE; have D4 := Lib.hid (RowAt.keep D3.out hb4); have R4 := Lib.hid (RowAt.keep R3.out hb4); have HB4 := Lib.hid (HB3.out.trans (hb4.mono HB3.out.size)); clear hE hb4 D3 R3 HB3)
      | (refine wp_storeEntW x E4.out (evals_length _) rfl rfl rfl rfl ?_; intro w5 hE hS; have E5 := Lib.hid hE; have D5 := Lib.hid (StoredAt.row hS D4.out (by omega)); have R5 := Lib.hid (StoredAt.row hS R4.out (by omega)); have HB5 := Lib.hid (StoredAt.below hS HB4.out (by omega)); obtain ⟨a0, a1, a2⟩ := rd_all D5.out; simp only at a1 a2; clear hE hS E4 D4 R4 HB4)
      | (refine wp_storeEntW ent0 R5.out (evals_length _) rfl rfl rfl rfl ?_; intro w6 hR hS; have R6 := Lib.hid hR; have HB6 := Lib.hid (StoredAt.below hS HB5.out (by omega)); clear hR hS R5 HB5))
    exact bodyPost_ret (res_entE rfl rfl R6.out) rfl ⟨rfl, HB6.out⟩
  rw [if_neg h1] at hd
  obtain rfl : p = s.size := by omega
  cases hv : validE x
  · rw [hv] at hd hV
    simp only [if_true, if_false, Bool.false_eq_true] at hd
    obtain ⟨rfl, rfl⟩ := Prod.mk.inj hd
    have CV := Lib.hid hV
    clear hd hV hv h1
    go_enter Try.func20, Try.ntmps20
    go_wp2_with (first
      | (clear HU; refine wp_newEntW rfl rfl ?_; intro w0 hR hb0 z0; have R0 := Lib.hid hR; have HB0 := Lib.hid hb0; clear hR hb0)
      | (refine wp_newW rd0 _ zero_rd rfl rfl ?_; intro w1 hD hb1 z1; have D1 := Lib.hid hD; have R1 := Lib.hid (RowAt.keep R0.out hb1); have HB1 := Lib.hid (HB0.out.trans (hb1.mono HB0.out.size)); clear hD hb1 R0 HB0)
      | (refine wp_storeRdW s D1.out rfl rfl rfl rfl rfl ?_; intro w2 hD hS; have D2 := Lib.hid hD; have R2 := Lib.hid (StoredAt.row hS R1.out (by omega)); have HB2 := Lib.hid (StoredAt.below hS HB1.out (by omega)); have y2 := hD.lt; clear hD hS D1 R1 HB1)
      | (go_at_call 35; have hq := D2.out; clear hq; (with_reducible refine (HE.out _ _ D2.out).mono ?_); rintro e1 w3 ⟨rfl, hD, hg⟩; have D3 := Lib.hid hD; have R3 := Lib.hid (RowAt.grown R2.out hg (fun e => by injection e; omega)); have HB3 := Lib.hid (below_row HB2.out hg (by omega)); have y3 := hD.lt; clear hD hg D2 R2 HB2)
      | (refine wp_newEntW rfl rfl ?_; intro w4 hE hb4 z4; have E4 := Lib.hid hE; have D4 := Lib.hid (RowAt.keep D3.out hb4); have R4 := Lib.hid (RowAt.keep R3.out hb4); have HB4 := Lib.hid (HB3.out.trans (hb4.mono HB3.out.size)); clear hE hb4 D3 R3 HB3)
      | (refine wp_storeEntW x E4.out (evals_length _) rfl rfl rfl rfl ?_; intro w5 hE hS; have E5 := Lib.hid hE; have D5 := Lib.hid (StoredAt.row hS D4.out (by omega)); have R5 := Lib.hid (StoredAt.row hS R4.out (by omega)); have HB5 := Lib.hid (StoredAt.below hS HB4.out (by omega)); obtain ⟨a0, a1, a2⟩ := rd_all D5.out; simp only at a1 a2; clear hE hS E4 D4 R4 HB4)
      | (refine wp_loadEnt x E5.out rfl rfl rfl ?_)
      | (go_at_call 14; (with_reducible refine (CV.out _).mono ?_); rintro e1 w6 ⟨rfl, hb⟩; have R6 := Lib.hid (RowAt.keep R5.out hb); have E6 := Lib.hid (RowAt.keep E5.out hb); have HB6 := Lib.hid (HB5.out.trans (hb.mono HB5.out.size)); clear hb R5 E5 HB5 a0 a1 a2)
      | (refine wp_loadEnt x E6.out rfl rfl rfl ?_)
      | (refine wp_storeEntW ent0 R6.out (evals_length _) rfl rfl rfl rfl ?_; intro w7 hR hS; have R7 := Lib.hid hR; have HB7 := Lib.hid (StoredAt.below hS HB6.out (by omega)); clear hR hS R6 HB6))
    exact bodyPost_ret (res_entE rfl rfl R7.out) rfl ⟨rfl, HB7.out⟩
  · rw [hv] at hd hV
    simp only [if_true, if_false, Bool.false_eq_true] at hd
    obtain ⟨rfl, rfl⟩ := Prod.mk.inj hd
    have CV := Lib.hid hV
    clear hd hV hv h1
    go_enter Try.func20, Try.ntmps20
    go_wp2_with (first
      | (clear HU; refine wp_newEntW rfl rfl ?_; intro w0 hR hb0 z0; have R0 := Lib.hid hR; have HB0 := Lib.hid hb0; clear hR hb0)
      | (refine wp_newW rd0 _ zero_rd rfl rfl ?_; intro w1 hD hb1 z1; have D1 := Lib.hid hD; have R1 := Lib.hid (RowAt.keep R0.out hb1); have HB1 := Lib.hid (HB0.out.trans (hb1.mono HB0.out.size)); clear hD hb1 R0 HB0)
      | (refine wp_storeRdW s D1.out rfl rfl rfl rfl rfl ?_; intro w2 hD hS; have D2 := Lib.hid hD; have R2 := Lib.hid (StoredAt.row hS R1.out (by omega)); have HB2 := Lib.hid (StoredAt.below hS HB1.out (by omega)); have y2 := hD.lt; clear hD hS D1 R1 HB1)
      | (go_at_call 35; have hq := D2.out; clear hq; (with_reducible refine (HE.out _ _ D2.out).mono ?_); rintro e1 w3 ⟨rfl, hD, hg⟩; have D3 := Lib.hid hD; have R3 := Lib.hid (RowAt.grown R2.out hg (fun e => by injection e; omega)); have HB3 := Lib.hid (below_row HB2.out hg (by omega)); have y3 := hD.lt; clear hD hg D2 R2 HB2)
      | (refine wp_newEntW rfl rfl ?_; intro w4 hE hb4 z4; have E4 := Lib.hid hE; have D4 := Lib.hid (RowAt.keep D3.out hb4); have R4 := Lib.hid (RowAt.keep R3.out hb4); have HB4 := Lib.hid (HB3.out.trans (hb4.mono HB3.out.size)); clear hE hb4 D3 R3 HB3)
      | (refine wp_storeEntW x E4.out (evals_length _) rfl rfl rfl rfl ?_; intro w5 hE hS; have E5 := Lib.hid hE; have D5 := Lib.hid (StoredAt.row hS D4.out (by omega)); have R5 := Lib.hid (StoredAt.row hS R4.out (by omega)); have HB5 := Lib.hid (StoredAt.below hS HB4.out (by omega)); obtain ⟨a0, a1, a2⟩ := rd_all D5.out; simp only at a1 a2; clear hE hS E4 D4 R4 HB4)
      | (refine wp_loadEnt x E5.out rfl rfl rfl ?_)
      | (go_at_call 14; (with_reducible refine (CV.out _).mono ?_); rintro e1 w6 ⟨rfl, hb⟩; have R6 := Lib.hid (RowAt.keep R5.out hb); have E6 := Lib.hid (RowAt.keep E5.out hb); have HB6 := Lib.hid (HB5.out.trans (hb.mono HB5.out.size)); clear hb R5 E5 HB5 a0 a1 a2)
      | (refine wp_loadEnt x E6.out rfl rfl rfl ?_)
      | (refine wp_storeEntW x R6.out (evals_length _) rfl rfl rfl rfl ?_; intro w7 hR hS; have R7 := Lib.hid hR; have HB7 := Lib.hid (StoredAt.below hS HB6.out (by omega)); clear hR hS R6 HB6))
    exact bodyPost_ret (res_entE rfl rfl R7.out) rfl ⟨rfl, HB7.out⟩
theorem decode_any (s : ByteArray) (hs : s.size ≤ 900000) (w : World) : Calls Try.prog 20 #[.string s] w fun e' w' => e' = .returned (.tuple #[.agg (decR s).1.arr, .int .i64 (decR s).2]) ∧ Below w.heap.size w w' := by
  have h1 := fun b => ent_any b s r00 hs (Nat.zero_le _)
  have h2 := entR_pos s r00 (Nat.zero_le _)
  have h3 : Says 14 #[.agg (entR s r00).1.arr] (validE (entR s r00).1) := fun w => od.valid_any _ w (entR_fits s r00 hs)
  have h4 : decR s = ((decR s).1, (decR s).2) := rfl
  unfold decR at h4 ⊢
  generalize entR s r00 = X at h1 h2 h3 h4 ⊢
  obtain ⟨x, p, er⟩ := X
  exact decode_walk s x p er _ _ hs h2 h1 h3 h4 w
end Go.Proofs.Ytiojpfljnbdonaa.ol
