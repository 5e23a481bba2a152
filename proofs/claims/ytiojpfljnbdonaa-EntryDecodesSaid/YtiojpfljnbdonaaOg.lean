/- Shape in general; Valid of the reference, which is that of the program. -/
import Derived.Test.YtiojpfljnbdonaaOe
import Derived.Test.YtiojpfljnbdonaaOf
namespace Go.Proofs.Ytiojpfljnbdonaa.og
open Go.ChangeShapes Go.WideShapes Go.ChangeAt Go.RowKit Go.Proofs.Ytiojpfljnbdonaa.cx Go.Proofs.Ytiojpfljnbdonaa.ra Go.Proofs.Ytiojpfljnbdonaa.rb Go.Proofs.Ytiojpfljnbdonaa.rc Go.Proofs.Ytiojpfljnbdonaa.da Go.Proofs.Ytiojpfljnbdonaa.ea Go.Proofs.Ytiojpfljnbdonaa.eb Go.Proofs.Ytiojpfljnbdonaa.ed Go.Proofs.Ytiojpfljnbdonaa.fb Go.Proofs.Ytiojpfljnbdonaa.ka Go.Proofs.Ytiojpfljnbdonaa.kb Go.Proofs.Ytiojpfljnbdonaa.kg Go.Proofs.Ytiojpfljnbdonaa.kj Go.Proofs.Ytiojpfljnbdonaa.oa Go.Proofs.Ytiojpfljnbdonaa.os Go.Proofs.Ytiojpfljnbdonaa.ob Go.Proofs.Ytiojpfljnbdonaa.oc Go.Proofs.Ytiojpfljnbdonaa.od Go.Proofs.Ytiojpfljnbdonaa.oe Go.Proofs.Ytiojpfljnbdonaa.of

def shapeD (e : Ent) : Ent :=
  if e.kind = 1 then ⟨e.lsn, e.kind, e.tx, e.prevTx, e.prevPage, 0, e.change, ⟨#[]⟩⟩
  else if e.kind = 2 then ⟨e.lsn, e.kind, e.tx, e.prevTx, e.prevPage, e.ref, e.change, ⟨#[]⟩⟩
  else if e.kind = 3 ∨ e.kind = 4 ∨ e.kind = 5 then ⟨e.lsn, e.kind, e.tx, e.prevTx, 0, 0, chg0, ⟨#[]⟩⟩
  else if e.kind = 7 then ⟨e.lsn, e.kind, 0, 0, 0, e.ref, ⟨e.change.page, 0, noCell, noCell⟩, ⟨#[]⟩⟩
  else if e.kind = 6 ∨ e.kind = 8 then ⟨e.lsn, e.kind, 0, 0, 0, 0, chg0, e.blob⟩
  else ⟨e.lsn, e.kind, 0, 0, 0, 0, chg0, ⟨#[]⟩⟩
def shapeB (e : Ent) : Bool :=
  if e.kind = 1 then validH e.change && txB e.tx
  else if e.kind = 2 then validH e.change && (decide (0 < e.prevTx) && (decide (1 ≤ e.ref) && (decide (e.ref ≤ e.prevTx) && txB e.tx)))
  else if e.kind = 3 ∨ e.kind = 4 ∨ e.kind = 5 then txB e.tx && decide (0 < e.prevTx)
  else if e.kind = 7 then decide (0 ≤ e.change.page) && decide (e.change.page < 64)
  else if e.kind = 6 ∨ e.kind = 8 then decide ((e.blob.size : Int) ≤ 8192)
  else false
def ShapeR (e : Ent) : Prop := ∀ w : World, Calls Try.prog 33 #[.agg e.arr] w fun e' w' => e' = .returned (.tuple #[.agg (shapeD e).arr, .bool (shapeB e)]) ∧ Below w.heap.size w w'
theorem shape_is {e q : Ent} {b : Bool} (hq : shapeD e = q) (hb : shapeB e = b) (h : ∀ w : World, Calls Try.prog 33 #[.agg e.arr] w fun e' w' => e' = .returned (.tuple #[.agg q.arr, .bool b]) ∧ Below w.heap.size w w') : ShapeR e := by
  subst hq; subst hb; exact h
theorem shape_any (e : Ent) (hf : FitsE e) : ShapeR e := by
  obtain ⟨l, k, t, pt, pp, r, c, s⟩ := e
  have hc : FitsH c := hf.1
  by_cases k1 : k = 1
  · subst k1
    cases hv : validH c
    · exact shape_is rfl (by simp [shapeB, hv]) (fun w => shape1a l t pt pp r c s hc hv w)
    by_cases h1 : 1 ≤ t
    · exact shape_is rfl (by simp [shapeB, hv, txB, h1]) (fun w => shape1c l t pt pp r c s hc hv h1 w)
    · exact shape_is rfl (by simp [shapeB, txB, h1]) (fun w => shape1b l t pt pp r c s hc hv h1 w)
  by_cases k2 : k = 2
  · subst k2
    cases hv : validH c
    · exact shape_is rfl (by simp [shapeB, hv]) (fun w => shape2a l t pt pp r c s hc hv w)
    by_cases h1 : 0 < pt
    rotate_left
    · exact shape_is rfl (by simp [shapeB, h1]) (fun w => shape2b l t pt pp r c s hc hv h1 w)
    by_cases h2 : 1 ≤ r
    rotate_left
    · exact shape_is rfl (by simp [shapeB, h2]) (fun w => shape2c l t pt pp r c s hc hv h1 h2 w)
    by_cases h3 : r ≤ pt
    rotate_left
    · exact shape_is rfl (by simp [shapeB, h3]) (fun w => shape2d l t pt pp r c s hc hv h1 h2 h3 w)
    by_cases h4 : 1 ≤ t
    · exact shape_is rfl (by simp [shapeB, hv, txB, h1, h2, h3, h4]) (fun w => shape2f l t pt pp r c s hc hv h1 h2 h3 h4 w)
    · exact shape_is rfl (by simp [shapeB, txB, h4]) (fun w => shape2e l t pt pp r c s hc hv h1 h2 h3 h4 w)
  by_cases k3 : k = 3
  · subst k3
    by_cases h1 : 1 ≤ t
    · by_cases h2 : t ≤ 1073741824
      · exact shape_is rfl (by simp [shapeB, txB, h1, h2]) (fun w => shape3c l t pt pp r c s h1 h2 w)
      · exact shape_is rfl (by simp [shapeB, txB, h2]) (fun w => shape3b l t pt pp r c s h1 h2 w)
    · exact shape_is rfl (by simp [shapeB, txB, h1]) (fun w => shape3a l t pt pp r c s h1 w)
  by_cases k4 : k = 4
  · subst k4
    by_cases h1 : 1 ≤ t
    · by_cases h2 : t ≤ 1073741824
      · exact shape_is rfl (by simp [shapeB, txB, h1, h2]) (fun w => shape4c l t pt pp r c s h1 h2 w)
      · exact shape_is rfl (by simp [shapeB, txB, h2]) (fun w => shape4b l t pt pp r c s h1 h2 w)
    · exact shape_is rfl (by simp [shapeB, txB, h1]) (fun w => shape4a l t pt pp r c s h1 w)
  by_cases k5 : k = 5
  · subst k5
    by_cases h1 : 1 ≤ t
    · by_cases h2 : t ≤ 1073741824
      · exact shape_is rfl (by simp [shapeB, txB, h1, h2]) (fun w => shape5c l t pt pp r c s h1 h2 w)
      · exact shape_is rfl (by simp [shapeB, txB, h2]) (fun w => shape5b l t pt pp r c s h1 h2 w)
    · exact shape_is rfl (by simp [shapeB, txB, h1]) (fun w => shape5a l t pt pp r c s h1 w)
  by_cases k6 : k = 6
  · subst k6
    exact shape_is rfl (by simp [shapeB]) (fun w => shape6 l t pt pp r c s w)
  by_cases k8 : k = 8
  · subst k8
    exact shape_is rfl (by simp [shapeB]) (fun w => shape8 l t pt pp r c s w)
  by_cases k7 : k = 7
  · subst k7
    by_cases h1 : 0 ≤ c.page
    · exact shape_is rfl (by simp [shapeB, h1]) (fun w => shape7b l t pt pp r c s h1 w)
    · exact shape_is rfl (by simp [shapeB, h1]) (fun w => shape7a l t pt pp r c s h1 w)
  exact shape_is (by simp [shapeD, k1, k2, k3, k4, k5, k6, k7, k8]) (by simp [shapeB, k1, k2, k3, k4, k5, k6, k7, k8]) (fun w => shape0 l k t pt pp r c s (by simpa using k1) (by simpa using k2) (by simpa using k3) (by simpa using k4) (by simpa using k5) (by simpa using k6) (by simpa using k7) (by simpa using k8) w)
def refB (okf : Ent → Bool) (q e : Ent) : Bool := okf e && (sameE q e && (decide (1 ≤ e.lsn) && (decide (e.lsn ≤ 1099511627776) && (earlyB e.prevTx e.lsn && (earlyB e.prevPage e.lsn && earlyB e.ref e.lsn)))))
set_option maxRecDepth 4000 in
set_option maxHeartbeats 4000000 in
theorem refValid_walk (okf : Ent → Bool) (e q : Ent) (hs : ∀ w : World, Calls Try.prog 33 #[.agg e.arr] w fun e' w' => e' = .returned (.tuple #[.agg q.arr, .bool (okf e)]) ∧ Below w.heap.size w w') (w : World) :
    Calls Try.prog 15 #[.agg e.arr] w fun e' w' => e' = .returned (.bool (refB okf q e)) ∧ Below w.heap.size w w' := by
  cases h0 : (okf e)
  · skip
    have hv : refB okf q e = false := by unfold refB; simp [h0]
    rw [hv]; clear hv
    have C0 : Hid (∀ w : World, Calls Try.prog 33 #[.agg e.arr] w fun e' w' => e' = .returned (.tuple #[.agg q.arr, .bool false]) ∧ Below w.heap.size w w') := Lib.hid (fun w => by have := hs w; rwa [h0] at this)
    clear h0
    have HU : Hid True := Lib.hid trivial
    clear hs
    go_enter Try.func15, Try.ntmps15
    go_wp2_with (first
      | (clear HU; refine wp_boxEntW e rfl rfl rfl ?_; intro w0 hP hb0 z0; have HE := Lib.hid hP; have HB := Lib.hid hb0; clear hP hb0)
      | (refine wp_loadEnt e HE.out rfl rfl rfl ?_)
      | (refine wp_newEntW rfl rfl ?_; intro w2 hR hb2 z2; have S2 := Lib.hid hR; have E2 := Lib.hid (RowAt.keep E1.out hb2); have HB2 := Lib.hid (HB1.out.trans (hb2.mono HB1.out.size)); clear hR hb2 E1 HB1)
      | (refine wp_storeEntW q S2.out (evals_length _) rfl rfl rfl rfl ?_; intro w3 hR hS; have S3 := Lib.hid hR; have E3 := Lib.hid (StoredAt.row hS E2.out (by omega)); have HB3 := Lib.hid (StoredAt.below hS HB2.out (by omega)); obtain ⟨a0, a1, a2, a3, a4, a5, a6, a7, a8, a9, a10, a11, a12⟩ := EnAt.all E3.out; clear hR hS S2 E2 HB2)
      | (refine wp_loadEnt q S3.out rfl rfl rfl ?_)
      | (refine wp_loadEnt e E3.out rfl rfl rfl ?_)
      | (go_at_call 33; (with_reducible refine (C0.out _).mono ?_); rintro e1 w1 ⟨rfl, hb1⟩; have z1 := hb1.size; have E1 := Lib.hid (RowAt.keep HE.out hb1); have HB1 := Lib.hid (HB.out.trans (hb1.mono HB.out.size)); clear hb1 HE HB))
    go_ret
    exact ⟨rfl, HB3.out⟩
  cases h1 : (sameE q e)
  · skip
    have hv : refB okf q e = false := by unfold refB; simp [h0, h1]
    rw [hv]; clear hv
    have C0 : Hid (∀ w : World, Calls Try.prog 33 #[.agg e.arr] w fun e' w' => e' = .returned (.tuple #[.agg q.arr, .bool true]) ∧ Below w.heap.size w w') := Lib.hid (fun w => by have := hs w; rwa [h0] at this)
    have q1 : ∀ W : World, (binOp .eql 28 (.agg q.arr) (.agg e.arr)).run Try.prog W = .ok (.bool false) W := fun W => by rw [ent_eql, h1]
    clear h0
    clear h1
    have HU : Hid True := Lib.hid trivial
    clear hs
    go_enter Try.func15, Try.ntmps15
    go_wp2_with (first
      | (clear HU; refine wp_boxEntW e rfl rfl rfl ?_; intro w0 hP hb0 z0; have HE := Lib.hid hP; have HB := Lib.hid hb0; clear hP hb0)
      | (refine wp_loadEnt e HE.out rfl rfl rfl ?_)
      | (refine wp_newEntW rfl rfl ?_; intro w2 hR hb2 z2; have S2 := Lib.hid hR; have E2 := Lib.hid (RowAt.keep E1.out hb2); have HB2 := Lib.hid (HB1.out.trans (hb2.mono HB1.out.size)); clear hR hb2 E1 HB1)
      | (refine wp_storeEntW q S2.out (evals_length _) rfl rfl rfl rfl ?_; intro w3 hR hS; have S3 := Lib.hid hR; have E3 := Lib.hid (StoredAt.row hS E2.out (by omega)); have HB3 := Lib.hid (StoredAt.below hS HB2.out (by omega)); obtain ⟨a0, a1, a2, a3, a4, a5, a6, a7, a8, a9, a10, a11, a12⟩ := EnAt.all E3.out; clear hR hS S2 E2 HB2)
      | (refine wp_loadEnt q S3.out rfl rfl rfl ?_)
      | (refine wp_loadEnt e E3.out rfl rfl rfl ?_)
      | (go_at_call 33; (with_reducible refine (C0.out _).mono ?_); rintro e1 w1 ⟨rfl, hb1⟩; have z1 := hb1.size; have E1 := Lib.hid (RowAt.keep HE.out hb1); have HB1 := Lib.hid (HB.out.trans (hb1.mono HB.out.size)); clear hb1 HE HB))
    go_ret
    exact ⟨rfl, HB3.out⟩
  by_cases h2 : 1 ≤ e.lsn
  rotate_left
  · skip
    have hv : refB okf q e = false := by unfold refB; simp [h0, h1, h2]
    rw [hv]; clear hv
    have C0 : Hid (∀ w : World, Calls Try.prog 33 #[.agg e.arr] w fun e' w' => e' = .returned (.tuple #[.agg q.arr, .bool true]) ∧ Below w.heap.size w w') := Lib.hid (fun w => by have := hs w; rwa [h0] at this)
    have q1 : ∀ W : World, (binOp .eql 28 (.agg q.arr) (.agg e.arr)).run Try.prog W = .ok (.bool true) W := fun W => by rw [ent_eql, h1]
    have d2 : decide (1 ≤ e.lsn) = false := by simpa using h2
    clear h0
    clear h1
    have HU : Hid True := Lib.hid trivial
    clear hs
    go_enter Try.func15, Try.ntmps15
    go_wp2_with (first
      | (clear HU; refine wp_boxEntW e rfl rfl rfl ?_; intro w0 hP hb0 z0; have HE := Lib.hid hP; have HB := Lib.hid hb0; clear hP hb0)
      | (refine wp_loadEnt e HE.out rfl rfl rfl ?_)
      | (refine wp_newEntW rfl rfl ?_; intro w2 hR hb2 z2; have S2 := Lib.hid hR; have E2 := Lib.hid (RowAt.keep E1.out hb2); have HB2 := Lib.hid (HB1.out.trans (hb2.mono HB1.out.size)); clear hR hb2 E1 HB1)
      | (refine wp_storeEntW q S2.out (evals_length _) rfl rfl rfl rfl ?_; intro w3 hR hS; have S3 := Lib.hid hR; have E3 := Lib.hid (StoredAt.row hS E2.out (by omega)); have HB3 := Lib.hid (StoredAt.below hS HB2.out (by omega)); obtain ⟨a0, a1, a2, a3, a4, a5, a6, a7, a8, a9, a10, a11, a12⟩ := EnAt.all E3.out; clear hR hS S2 E2 HB2)
      | (refine wp_loadEnt q S3.out rfl rfl rfl ?_)
      | (refine wp_loadEnt e E3.out rfl rfl rfl ?_)
      | (go_at_call 33; (with_reducible refine (C0.out _).mono ?_); rintro e1 w1 ⟨rfl, hb1⟩; have z1 := hb1.size; have E1 := Lib.hid (RowAt.keep HE.out hb1); have HB1 := Lib.hid (HB.out.trans (hb1.mono HB.out.size)); clear hb1 HE HB))
    go_ret
    exact ⟨rfl, HB3.out⟩
  by_cases h3 : e.lsn ≤ 1099511627776
  rotate_left
  · skip
    have hv : refB okf q e = false := by unfold refB; simp [h0, h1, h2, h3]
    rw [hv]; clear hv
    have C0 : Hid (∀ w : World, Calls Try.prog 33 #[.agg e.arr] w fun e' w' => e' = .returned (.tuple #[.agg q.arr, .bool true]) ∧ Below w.heap.size w w') := Lib.hid (fun w => by have := hs w; rwa [h0] at this)
    have q1 : ∀ W : World, (binOp .eql 28 (.agg q.arr) (.agg e.arr)).run Try.prog W = .ok (.bool true) W := fun W => by rw [ent_eql, h1]
    have d2 : decide (1 ≤ e.lsn) = true := by simpa using h2
    have d3 : decide (e.lsn ≤ 1099511627776) = false := by simpa using h3
    clear h0
    clear h1
    have HU : Hid True := Lib.hid trivial
    clear hs
    go_enter Try.func15, Try.ntmps15
    go_wp2_with (first
      | (clear HU; refine wp_boxEntW e rfl rfl rfl ?_; intro w0 hP hb0 z0; have HE := Lib.hid hP; have HB := Lib.hid hb0; clear hP hb0)
      | (refine wp_loadEnt e HE.out rfl rfl rfl ?_)
      | (refine wp_newEntW rfl rfl ?_; intro w2 hR hb2 z2; have S2 := Lib.hid hR; have E2 := Lib.hid (RowAt.keep E1.out hb2); have HB2 := Lib.hid (HB1.out.trans (hb2.mono HB1.out.size)); clear hR hb2 E1 HB1)
      | (refine wp_storeEntW q S2.out (evals_length _) rfl rfl rfl rfl ?_; intro w3 hR hS; have S3 := Lib.hid hR; have E3 := Lib.hid (StoredAt.row hS E2.out (by omega)); have HB3 := Lib.hid (StoredAt.below hS HB2.out (by omega)); obtain ⟨a0, a1, a2, a3, a4, a5, a6, a7, a8, a9, a10, a11, a12⟩ := EnAt.all E3.out; clear hR hS S2 E2 HB2)
      | (refine wp_loadEnt q S3.out rfl rfl rfl ?_)
      | (refine wp_loadEnt e E3.out rfl rfl rfl ?_)
      | (go_at_call 33; (with_reducible refine (C0.out _).mono ?_); rintro e1 w1 ⟨rfl, hb1⟩; have z1 := hb1.size; have E1 := Lib.hid (RowAt.keep HE.out hb1); have HB1 := Lib.hid (HB.out.trans (hb1.mono HB.out.size)); clear hb1 HE HB))
    go_ret
    exact ⟨rfl, HB3.out⟩
  cases h4 : (earlyB e.prevTx e.lsn)
  · skip
    have hv : refB okf q e = false := by unfold refB; simp [h0, h1, h2, h3, h4]
    rw [hv]; clear hv
    have C0 : Hid (∀ w : World, Calls Try.prog 33 #[.agg e.arr] w fun e' w' => e' = .returned (.tuple #[.agg q.arr, .bool true]) ∧ Below w.heap.size w w') := Lib.hid (fun w => by have := hs w; rwa [h0] at this)
    have q1 : ∀ W : World, (binOp .eql 28 (.agg q.arr) (.agg e.arr)).run Try.prog W = .ok (.bool true) W := fun W => by rw [ent_eql, h1]
    have d2 : decide (1 ≤ e.lsn) = true := by simpa using h2
    have d3 : decide (e.lsn ≤ 1099511627776) = true := by simpa using h3
    have C4 : Hid (∀ w : World, Calls Try.prog 34 #[.int .i64 e.prevTx, .int .i64 e.lsn] w fun e' w' => e' = .returned (.bool false) ∧ w = w') := Lib.hid (fun w => by have := before_any e.prevTx e.lsn w; rwa [h4] at this)
    clear h0
    clear h1
    clear h4
    have HU : Hid True := Lib.hid trivial
    clear hs
    go_enter Try.func15, Try.ntmps15
    go_wp2_with (first
      | (clear HU; refine wp_boxEntW e rfl rfl rfl ?_; intro w0 hP hb0 z0; have HE := Lib.hid hP; have HB := Lib.hid hb0; clear hP hb0)
      | (refine wp_loadEnt e HE.out rfl rfl rfl ?_)
      | (refine wp_newEntW rfl rfl ?_; intro w2 hR hb2 z2; have S2 := Lib.hid hR; have E2 := Lib.hid (RowAt.keep E1.out hb2); have HB2 := Lib.hid (HB1.out.trans (hb2.mono HB1.out.size)); clear hR hb2 E1 HB1)
      | (refine wp_storeEntW q S2.out (evals_length _) rfl rfl rfl rfl ?_; intro w3 hR hS; have S3 := Lib.hid hR; have E3 := Lib.hid (StoredAt.row hS E2.out (by omega)); have HB3 := Lib.hid (StoredAt.below hS HB2.out (by omega)); obtain ⟨a0, a1, a2, a3, a4, a5, a6, a7, a8, a9, a10, a11, a12⟩ := EnAt.all E3.out; clear hR hS S2 E2 HB2)
      | (refine wp_loadEnt q S3.out rfl rfl rfl ?_)
      | (refine wp_loadEnt e E3.out rfl rfl rfl ?_)
      | (go_at_call 33; (with_reducible refine (C0.out _).mono ?_); rintro e1 w1 ⟨rfl, hb1⟩; have z1 := hb1.size; have E1 := Lib.hid (RowAt.keep HE.out hb1); have HB1 := Lib.hid (HB.out.trans (hb1.mono HB.out.size)); clear hb1 HE HB)
      | (go_at_call 34; (with_reducible refine (C4.out _).mono ?_); rintro e1 w9 ⟨rfl, rfl⟩))
    go_ret
    exact ⟨rfl, HB3.out⟩
  cases h5 : (earlyB e.prevPage e.lsn)
  · skip
    have hv : refB okf q e = false := by unfold refB; simp [h0, h1, h2, h3, h4, h5]
    rw [hv]; clear hv
    have C0 : Hid (∀ w : World, Calls Try.prog 33 #[.agg e.arr] w fun e' w' => e' = .returned (.tuple #[.agg q.arr, .bool true]) ∧ Below w.heap.size w w') := Lib.hid (fun w => by have := hs w; rwa [h0] at this)
    have q1 : ∀ W : World, (binOp .eql 28 (.agg q.arr) (.agg e.arr)).run Try.prog W = .ok (.bool true) W := fun W => by rw [ent_eql, h1]
    have d2 : decide (1 ≤ e.lsn) = true := by simpa using h2
    have d3 : decide (e.lsn ≤ 1099511627776) = true := by simpa using h3
    have C4 : Hid (∀ w : World, Calls Try.prog 34 #[.int .i64 e.prevTx, .int .i64 e.lsn] w fun e' w' => e' = .returned (.bool true) ∧ w = w') := Lib.hid (fun w => by have := before_any e.prevTx e.lsn w; rwa [h4] at this)
    have C5 : Hid (∀ w : World, Calls Try.prog 34 #[.int .i64 e.prevPage, .int .i64 e.lsn] w fun e' w' => e' = .returned (.bool false) ∧ w = w') := Lib.hid (fun w => by have := before_any e.prevPage e.lsn w; rwa [h5] at this)
    clear h0
    clear h1
    clear h4
    clear h5
    have HU : Hid True := Lib.hid trivial
    clear hs
    go_enter Try.func15, Try.ntmps15
    go_wp2_with (first
      | (clear HU; refine wp_boxEntW e rfl rfl rfl ?_; intro w0 hP hb0 z0; have HE := Lib.hid hP; have HB := Lib.hid hb0; clear hP hb0)
      | (refine wp_loadEnt e HE.out rfl rfl rfl ?_)
      | (refine wp_newEntW rfl rfl ?_; intro w2 hR hb2 z2; have S2 := Lib.hid hR; have E2 := Lib.hid (RowAt.keep E1.out hb2); have HB2 := Lib.hid (HB1.out.trans (hb2.mono HB1.out.size)); clear hR hb2 E1 HB1)
      | (refine wp_storeEntW q S2.out (evals_length _) rfl rfl rfl rfl ?_; intro w3 hR hS; have S3 := Lib.hid hR; have E3 := Lib.hid (StoredAt.row hS E2.out (by omega)); have HB3 := Lib.hid (StoredAt.below hS HB2.out (by omega)); obtain ⟨a0, a1, a2, a3, a4, a5, a6, a7, a8, a9, a10, a11, a12⟩ := EnAt.all E3.out; clear hR hS S2 E2 HB2)
      | (refine wp_loadEnt q S3.out rfl rfl rfl ?_)
      | (refine wp_loadEnt e E3.out rfl rfl rfl ?_)
      | (go_at_call 33; (with_reducible refine (C0.out _).mono ?_); rintro e1 w1 ⟨rfl, hb1⟩; have z1 := hb1.size; have E1 := Lib.hid (RowAt.keep HE.out hb1); have HB1 := Lib.hid (HB.out.trans (hb1.mono HB.out.size)); clear hb1 HE HB)
      | (go_at_call 34; (with_reducible refine (C4.out _).mono ?_); rintro e1 w9 ⟨rfl, rfl⟩)
      | (go_at_call 34; (with_reducible refine (C5.out _).mono ?_); rintro e1 w9 ⟨rfl, rfl⟩))
    go_ret
    exact ⟨rfl, HB3.out⟩
  cases h6 : (earlyB e.ref e.lsn)
  · skip
    have hv : refB okf q e = false := by unfold refB; simp [h0, h1, h2, h3, h4, h5, h6]
    rw [hv]; clear hv
    have C0 : Hid (∀ w : World, Calls Try.prog 33 #[.agg e.arr] w fun e' w' => e' = .returned (.tuple #[.agg q.arr, .bool true]) ∧ Below w.heap.size w w') := Lib.hid (fun w => by have := hs w; rwa [h0] at this)
    have q1 : ∀ W : World, (binOp .eql 28 (.agg q.arr) (.agg e.arr)).run Try.prog W = .ok (.bool true) W := fun W => by rw [ent_eql, h1]
    have d2 : decide (1 ≤ e.lsn) = true := by simpa using h2
    have d3 : decide (e.lsn ≤ 1099511627776) = true := by simpa using h3
    have C4 : Hid (∀ w : World, Calls Try.prog 34 #[.int .i64 e.prevTx, .int .i64 e.lsn] w fun e' w' => e' = .returned (.bool true) ∧ w = w') := Lib.hid (fun w => by have := before_any e.prevTx e.lsn w; rwa [h4] at this)
    have C5 : Hid (∀ w : World, Calls Try.prog 34 #[.int .i64 e.prevPage, .int .i64 e.lsn] w fun e' w' => e' = .returned (.bool true) ∧ w = w') := Lib.hid (fun w => by have := before_any e.prevPage e.lsn w; rwa [h5] at this)
    have C6 : Hid (∀ w : World, Calls Try.prog 34 #[.int .i64 e.ref, .int .i64 e.lsn] w fun e' w' => e' = .returned (.bool false) ∧ w = w') := Lib.hid (fun w => by have := before_any e.ref e.lsn w; rwa [h6] at this)
    clear h0
    clear h1
    clear h4
    clear h5
    clear h6
    have HU : Hid True := Lib.hid trivial
    clear hs
    go_enter Try.func15, Try.ntmps15
    go_wp2_with (first
      | (clear HU; refine wp_boxEntW e rfl rfl rfl ?_; intro w0 hP hb0 z0; have HE := Lib.hid hP; have HB := Lib.hid hb0; clear hP hb0)
      | (refine wp_loadEnt e HE.out rfl rfl rfl ?_)
      | (refine wp_newEntW rfl rfl ?_; intro w2 hR hb2 z2; have S2 := Lib.hid hR; have E2 := Lib.hid (RowAt.keep E1.out hb2); have HB2 := Lib.hid (HB1.out.trans (hb2.mono HB1.out.size)); clear hR hb2 E1 HB1)
      | (refine wp_storeEntW q S2.out (evals_length _) rfl rfl rfl rfl ?_; intro w3 hR hS; have S3 := Lib.hid hR; have E3 := Lib.hid (StoredAt.row hS E2.out (by omega)); have HB3 := Lib.hid (StoredAt.below hS HB2.out (by omega)); obtain ⟨a0, a1, a2, a3, a4, a5, a6, a7, a8, a9, a10, a11, a12⟩ := EnAt.all E3.out; clear hR hS S2 E2 HB2)
      | (refine wp_loadEnt q S3.out rfl rfl rfl ?_)
      | (refine wp_loadEnt e E3.out rfl rfl rfl ?_)
      | (go_at_call 33; (with_reducible refine (C0.out _).mono ?_); rintro e1 w1 ⟨rfl, hb1⟩; have z1 := hb1.size; have E1 := Lib.hid (RowAt.keep HE.out hb1); have HB1 := Lib.hid (HB.out.trans (hb1.mono HB.out.size)); clear hb1 HE HB)
      | (go_at_call 34; (with_reducible refine (C4.out _).mono ?_); rintro e1 w9 ⟨rfl, rfl⟩)
      | (go_at_call 34; (with_reducible refine (C5.out _).mono ?_); rintro e1 w9 ⟨rfl, rfl⟩)
      | (go_at_call 34; (with_reducible refine (C6.out _).mono ?_); rintro e1 w9 ⟨rfl, rfl⟩))
    go_ret
    exact ⟨rfl, HB3.out⟩
  have hv : refB okf q e = true := by unfold refB; simp [h0, h1, h2, h3, h4, h5, h6]
  rw [hv]; clear hv
  have C0 : Hid (∀ w : World, Calls Try.prog 33 #[.agg e.arr] w fun e' w' => e' = .returned (.tuple #[.agg q.arr, .bool true]) ∧ Below w.heap.size w w') := Lib.hid (fun w => by have := hs w; rwa [h0] at this)
  have q1 : ∀ W : World, (binOp .eql 28 (.agg q.arr) (.agg e.arr)).run Try.prog W = .ok (.bool true) W := fun W => by rw [ent_eql, h1]
  have d2 : decide (1 ≤ e.lsn) = true := by simpa using h2
  have d3 : decide (e.lsn ≤ 1099511627776) = true := by simpa using h3
  have C4 : Hid (∀ w : World, Calls Try.prog 34 #[.int .i64 e.prevTx, .int .i64 e.lsn] w fun e' w' => e' = .returned (.bool true) ∧ w = w') := Lib.hid (fun w => by have := before_any e.prevTx e.lsn w; rwa [h4] at this)
  have C5 : Hid (∀ w : World, Calls Try.prog 34 #[.int .i64 e.prevPage, .int .i64 e.lsn] w fun e' w' => e' = .returned (.bool true) ∧ w = w') := Lib.hid (fun w => by have := before_any e.prevPage e.lsn w; rwa [h5] at this)
  have C6 : Hid (∀ w : World, Calls Try.prog 34 #[.int .i64 e.ref, .int .i64 e.lsn] w fun e' w' => e' = .returned (.bool true) ∧ w = w') := Lib.hid (fun w => by have := before_any e.ref e.lsn w; rwa [h6] at this)
  clear h0
  clear h1
  clear h4
  clear h5
  clear h6
  have HU : Hid True := Lib.hid trivial
  clear hs
  go_enter Try.func15, Try.ntmps15
  go_wp2_with (first
    | (clear HU; refine wp_boxEntW e rfl rfl rfl ?_; intro w0 hP hb0 z0; have HE := Lib.hid hP; have HB := Lib.hid hb0; clear hP hb0)
    | (refine wp_loadEnt e HE.out rfl rfl rfl ?_)
    | (refine wp_newEntW rfl rfl ?_; intro w2 hR hb2 z2; have S2 := Lib.hid hR; have E2 := Lib.hid (RowAt.keep E1.out hb2); have HB2 := Lib.hid (HB1.out.trans (hb2.mono HB1.out.size)); clear hR hb2 E1 HB1)
    | (refine wp_storeEntW q S2.out (evals_length _) rfl rfl rfl rfl ?_; intro w3 hR hS; have S3 := Lib.hid hR; have E3 := Lib.hid (StoredAt.row hS E2.out (by omega)); have HB3 := Lib.hid (StoredAt.below hS HB2.out (by omega)); obtain ⟨a0, a1, a2, a3, a4, a5, a6, a7, a8, a9, a10, a11, a12⟩ := EnAt.all E3.out; clear hR hS S2 E2 HB2)
    | (refine wp_loadEnt q S3.out rfl rfl rfl ?_)
    | (refine wp_loadEnt e E3.out rfl rfl rfl ?_)
    | (go_at_call 33; (with_reducible refine (C0.out _).mono ?_); rintro e1 w1 ⟨rfl, hb1⟩; have z1 := hb1.size; have E1 := Lib.hid (RowAt.keep HE.out hb1); have HB1 := Lib.hid (HB.out.trans (hb1.mono HB.out.size)); clear hb1 HE HB)
    | (go_at_call 34; (with_reducible refine (C4.out _).mono ?_); rintro e1 w9 ⟨rfl, rfl⟩)
    | (go_at_call 34; (with_reducible refine (C5.out _).mono ?_); rintro e1 w9 ⟨rfl, rfl⟩)
    | (go_at_call 34; (with_reducible refine (C6.out _).mono ?_); rintro e1 w9 ⟨rfl, rfl⟩))
  go_ret
  exact ⟨rfl, HB3.out⟩

theorem sameE_no {x y : Ent} (h : x ≠ y) : sameE x y = false := by
  cases hs : sameE x y with
  | false => rfl
  | true => exact absurd (sameE_iff.1 hs) h
theorem blob_nil {s : ByteArray} : noBlobB s = true ↔ s = ⟨#[]⟩ := by unfold noBlobB; rw [beq_iff_eq]; exact nil_iff s
theorem sameH_c0 {c : Chg} : noChangeB c = true ↔ c = chg0 := sameH_iff
/-- Both programs call the same entries valid. -/
theorem ref_is (e : Ent) : refB shapeB (shapeD e) e = validE e := by
  have hn : refB shapeB (shapeD e) e = (shapeB e && (sameE (shapeD e) e && numsB e)) := rfl
  rw [hn]
  unfold validE
  rw [Bool.eq_iff_iff]
  simp only [Bool.and_eq_true, sameE_iff]
  obtain ⟨l, k, t, pt, pp, r, c, s⟩ := e
  have key : ∀ P : Prop, (shapeB ⟨l, k, t, pt, pp, r, c, s⟩ = true ∧ shapeD ⟨l, k, t, pt, pp, r, c, s⟩ = ⟨l, k, t, pt, pp, r, c, s⟩ ∧ P ↔ kindB k = true ∧ P ∧ allowB ⟨l, k, t, pt, pp, r, c, s⟩ = true) := by
    intro P
    have e1 : (⟨#[]⟩ = s) ↔ (noBlobB s = true) := ⟨fun h => blob_nil.2 h.symm, fun h => (blob_nil.1 h).symm⟩
    have e2 : (chg0 = c) ↔ (noChangeB c = true) := ⟨fun h => sameH_c0.2 h.symm, fun h => (sameH_c0.1 h).symm⟩
    have e3 : ((⟨c.page, 0, noCell, noCell⟩ : Chg) = c) ↔ (sameH c ⟨c.page, 0, noCell, noCell⟩ = true) := ⟨fun h => sameH_iff.2 h.symm, fun h => (sameH_iff.1 h).symm⟩
    have z : ∀ n : Int, (0 = n) ↔ (n == 0) = true := fun n => by rw [beq_iff_eq]; exact ⟨Eq.symm, Eq.symm⟩
    by_cases k1 : k = 1
    · subst k1
      simp only [shapeB, shapeD, allowB, kindB, linksChangeB, if_pos, Bool.and_eq_true, e1, z, Ent.mk.injEq, true_and]
      simp only [show decide ((1:Int) ≤ 1) = true from rfl, show decide ((1:Int) ≤ 8) = true from rfl, true_and]
      constructor <;> (intro h; simp only [h, and_self])
    by_cases k2 : k = 2
    · subst k2
      simp only [shapeB, shapeD, allowB, kindB, linksUndoB, show ¬ ((2:Int) = 1) from by decide, if_false, if_true, Bool.and_eq_true, e1, Ent.mk.injEq, true_and]
      simp only [show decide ((1:Int) ≤ 2) = true from rfl, show decide ((2:Int) ≤ 8) = true from rfl, true_and]
      constructor
      · intro h
        simp only [h, and_self]
      · intro h
        obtain ⟨hp, ⟨h1, h2, h3⟩, h4, h5⟩ := h
        have : decide (0 < pt) = true := by simp only [decide_eq_true_eq] at *; omega
        simp only [this, hp, h1, h2, h3, h4, h5, and_self]
    by_cases k345 : k = 3 ∨ k = 4 ∨ k = 5
    · have kb : kindB k = true := by unfold kindB; simp only [Bool.and_eq_true, decide_eq_true_eq]; omega
      simp only [shapeB, shapeD, allowB, linksTurnB, k1, k2, k345, kb, if_false, if_true, Bool.and_eq_true, e1, e2, z, Ent.mk.injEq, true_and]
      constructor <;> (intro h; simp only [h, and_self])
    by_cases k7 : k = 7
    · subst k7
      have kb : kindB 7 = true := by decide
      simp only [shapeB, shapeD, allowB, linksPageB, pageAloneB, k1, k2, k345, kb, if_false, if_true, Bool.and_eq_true, e1, e3, z, Ent.mk.injEq, true_and]
      constructor <;> (intro h; simp only [h, and_self])
    by_cases k68 : k = 6 ∨ k = 8
    · have kb : kindB k = true := by unfold kindB; simp only [Bool.and_eq_true, decide_eq_true_eq]; omega
      simp only [shapeB, shapeD, allowB, linksNothingB, linksPageB, someBlobB, k1, k2, k345, k7, k68, kb, if_false, if_true, Bool.and_eq_true, e2, z, Ent.mk.injEq, true_and, and_true]
      constructor <;> (intro h; simp only [h, and_self])
    · have kb : kindB k = false := by
        unfold kindB
        rw [Bool.eq_false_iff]
        simp only [ne_eq, Bool.and_eq_true, decide_eq_true_eq]
        omega
      simp only [shapeB, k1, k2, k345, k7, k68, kb, if_false, Bool.false_eq_true, false_and]
  exact key _
theorem refValid_any (e : Ent) (w : World) (hf : FitsE e) : Calls Try.prog 15 #[.agg e.arr] w fun e' w' => e' = .returned (.bool (validE e)) ∧ Below w.heap.size w w' := by
  have := refValid_walk shapeB e (shapeD e) (shape_any e hf) w
  rwa [ref_is] at this
end Go.Proofs.Ytiojpfljnbdonaa.og
