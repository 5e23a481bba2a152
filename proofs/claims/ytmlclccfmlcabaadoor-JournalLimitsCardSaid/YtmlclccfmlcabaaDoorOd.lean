/- Valid of the program. -/
import Derived.Test.YtmlclccfmlcabaaDoorOc
import Derived.Test.YtmlclccfmlcabaaDoorOs
namespace Go.Proofs.YtmlclccfmlcabaaDoor.od
open Go.ChangeShapes Go.WideShapes Go.ChangeAt Go.RowKit Go.Proofs.YtmlclccfmlcabaaDoor.cx Go.Proofs.YtmlclccfmlcabaaDoor.ra Go.Proofs.YtmlclccfmlcabaaDoor.rb Go.Proofs.YtmlclccfmlcabaaDoor.rc Go.Proofs.YtmlclccfmlcabaaDoor.da Go.Proofs.YtmlclccfmlcabaaDoor.ea Go.Proofs.YtmlclccfmlcabaaDoor.eb Go.Proofs.YtmlclccfmlcabaaDoor.ed Go.Proofs.YtmlclccfmlcabaaDoor.fb Go.Proofs.YtmlclccfmlcabaaDoor.ka Go.Proofs.YtmlclccfmlcabaaDoor.kb Go.Proofs.YtmlclccfmlcabaaDoor.kg Go.Proofs.YtmlclccfmlcabaaDoor.kj Go.Proofs.YtmlclccfmlcabaaDoor.oa Go.Proofs.YtmlclccfmlcabaaDoor.os Go.Proofs.YtmlclccfmlcabaaDoor.ob Go.Proofs.YtmlclccfmlcabaaDoor.oc

def kindB (n : Int) : Bool := decide (1 ≤ n) && decide (n ≤ 8)
theorem validKind_any (n : Int) (w : World) :
    Calls Tryd.prog 22 #[.int .i64 n] w fun e' w' => e' = .returned (.bool (kindB n)) ∧ w = w' := by
  by_cases h0 : 1 ≤ n
  rotate_left
  · skip
    have hv : (kindB n) = false := by unfold kindB; simp [h0]
    rw [hv]; clear hv
    have d0 : decide (1 ≤ n) = false := by simpa using h0
    go_enter Tryd.func22, Tryd.ntmps22
    go_wp2
    go_ret
    exact ⟨rfl, rfl⟩
  by_cases h1 : n ≤ 8
  rotate_left
  · skip
    have hv : (kindB n) = false := by unfold kindB; simp [h0, h1]
    rw [hv]; clear hv
    have d1 : decide (n ≤ 8) = false := by simpa using h1
    go_enter Tryd.func22, Tryd.ntmps22
    go_wp2
    go_ret
    exact ⟨rfl, rfl⟩
  have hv : (kindB n) = true := by unfold kindB; simp [h0, h1]
  rw [hv]; clear hv
  go_enter Tryd.func22, Tryd.ntmps22
  go_wp2
  go_ret
  exact ⟨rfl, rfl⟩

def numsB (e : Ent) : Bool := decide (1 ≤ e.lsn) && (decide (e.lsn ≤ 1099511627776) && (earlyB e.prevTx e.lsn && (earlyB e.prevPage e.lsn && earlyB e.ref e.lsn)))
set_option maxRecDepth 4000 in
set_option maxHeartbeats 2000000 in
theorem validNumbers_any (e : Ent) (w : World) :
    Calls Tryd.prog 23 #[.agg e.arr] w fun e' w' => e' = .returned (.bool (numsB e)) ∧ Below w.heap.size w w' := by
  by_cases h0 : 1 ≤ e.lsn
  rotate_left
  · skip
    have hv : (numsB e) = false := by unfold numsB; simp [h0]
    rw [hv]; clear hv
    have d0 : decide (1 ≤ e.lsn) = false := by simpa using h0
    go_enter Tryd.func23, Tryd.ntmps23
    go_wp2_with (first
      | (refine wp_boxEntW e rfl rfl rfl ?_; intro w0 hP hb0 hz0; have HC := Lib.hid hP; have HB := Lib.hid hb0; obtain ⟨a0, a1, a2, a3, a4, a5, a6, a7, a8, a9, a10, a11, a12⟩ := hP.all; clear hP hb0 hz0))
    go_ret
    exact ⟨rfl, HB.out⟩
  by_cases h1 : e.lsn ≤ 1099511627776
  rotate_left
  · skip
    have hv : (numsB e) = false := by unfold numsB; simp [h0, h1]
    rw [hv]; clear hv
    have d1 : decide (e.lsn ≤ 1099511627776) = false := by simpa using h1
    go_enter Tryd.func23, Tryd.ntmps23
    go_wp2_with (first
      | (refine wp_boxEntW e rfl rfl rfl ?_; intro w0 hP hb0 hz0; have HC := Lib.hid hP; have HB := Lib.hid hb0; obtain ⟨a0, a1, a2, a3, a4, a5, a6, a7, a8, a9, a10, a11, a12⟩ := hP.all; clear hP hb0 hz0))
    go_ret
    exact ⟨rfl, HB.out⟩
  cases h2 : (earlyB e.prevTx e.lsn)
  · skip
    have hv : (numsB e) = false := by unfold numsB; simp [h0, h1, h2]
    rw [hv]; clear hv
    have C2 : Hid (∀ w, Calls Tryd.prog 32 #[.int .i64 e.prevTx, .int .i64 e.lsn] w fun e' w' => e' = .returned (.bool false) ∧ w = w') := Lib.hid (fun w => by have := validEarlier_any e.prevTx e.lsn w; rwa [h2] at this)
    clear h2
    go_enter Tryd.func23, Tryd.ntmps23
    go_wp2_with (first
      | (refine wp_boxEntW e rfl rfl rfl ?_; intro w0 hP hb0 hz0; have HC := Lib.hid hP; have HB := Lib.hid hb0; obtain ⟨a0, a1, a2, a3, a4, a5, a6, a7, a8, a9, a10, a11, a12⟩ := hP.all; clear hP hb0 hz0)
      | (go_at_call 32; (with_reducible refine (C2.out _).mono ?_); rintro e1 w1 ⟨rfl, rfl⟩))
    go_ret
    exact ⟨rfl, HB.out⟩
  cases h3 : (earlyB e.prevPage e.lsn)
  · skip
    have hv : (numsB e) = false := by unfold numsB; simp [h0, h1, h2, h3]
    rw [hv]; clear hv
    have C2 : Hid (∀ w, Calls Tryd.prog 32 #[.int .i64 e.prevTx, .int .i64 e.lsn] w fun e' w' => e' = .returned (.bool true) ∧ w = w') := Lib.hid (fun w => by have := validEarlier_any e.prevTx e.lsn w; rwa [h2] at this)
    have C3 : Hid (∀ w, Calls Tryd.prog 32 #[.int .i64 e.prevPage, .int .i64 e.lsn] w fun e' w' => e' = .returned (.bool false) ∧ w = w') := Lib.hid (fun w => by have := validEarlier_any e.prevPage e.lsn w; rwa [h3] at this)
    clear h2
    clear h3
    go_enter Tryd.func23, Tryd.ntmps23
    go_wp2_with (first
      | (refine wp_boxEntW e rfl rfl rfl ?_; intro w0 hP hb0 hz0; have HC := Lib.hid hP; have HB := Lib.hid hb0; obtain ⟨a0, a1, a2, a3, a4, a5, a6, a7, a8, a9, a10, a11, a12⟩ := hP.all; clear hP hb0 hz0)
      | (go_at_call 32; (with_reducible refine (C2.out _).mono ?_); rintro e1 w1 ⟨rfl, rfl⟩)
      | (go_at_call 32; (with_reducible refine (C3.out _).mono ?_); rintro e1 w1 ⟨rfl, rfl⟩))
    go_ret
    exact ⟨rfl, HB.out⟩
  cases h4 : (earlyB e.ref e.lsn)
  · skip
    have hv : (numsB e) = false := by unfold numsB; simp [h0, h1, h2, h3, h4]
    rw [hv]; clear hv
    have C2 : Hid (∀ w, Calls Tryd.prog 32 #[.int .i64 e.prevTx, .int .i64 e.lsn] w fun e' w' => e' = .returned (.bool true) ∧ w = w') := Lib.hid (fun w => by have := validEarlier_any e.prevTx e.lsn w; rwa [h2] at this)
    have C3 : Hid (∀ w, Calls Tryd.prog 32 #[.int .i64 e.prevPage, .int .i64 e.lsn] w fun e' w' => e' = .returned (.bool true) ∧ w = w') := Lib.hid (fun w => by have := validEarlier_any e.prevPage e.lsn w; rwa [h3] at this)
    have C4 : Hid (∀ w, Calls Tryd.prog 32 #[.int .i64 e.ref, .int .i64 e.lsn] w fun e' w' => e' = .returned (.bool false) ∧ w = w') := Lib.hid (fun w => by have := validEarlier_any e.ref e.lsn w; rwa [h4] at this)
    clear h2
    clear h3
    clear h4
    go_enter Tryd.func23, Tryd.ntmps23
    go_wp2_with (first
      | (refine wp_boxEntW e rfl rfl rfl ?_; intro w0 hP hb0 hz0; have HC := Lib.hid hP; have HB := Lib.hid hb0; obtain ⟨a0, a1, a2, a3, a4, a5, a6, a7, a8, a9, a10, a11, a12⟩ := hP.all; clear hP hb0 hz0)
      | (go_at_call 32; (with_reducible refine (C2.out _).mono ?_); rintro e1 w1 ⟨rfl, rfl⟩)
      | (go_at_call 32; (with_reducible refine (C3.out _).mono ?_); rintro e1 w1 ⟨rfl, rfl⟩)
      | (go_at_call 32; (with_reducible refine (C4.out _).mono ?_); rintro e1 w1 ⟨rfl, rfl⟩))
    go_ret
    exact ⟨rfl, HB.out⟩
  have hv : (numsB e) = true := by unfold numsB; simp [h0, h1, h2, h3, h4]
  rw [hv]; clear hv
  have C2 : Hid (∀ w, Calls Tryd.prog 32 #[.int .i64 e.prevTx, .int .i64 e.lsn] w fun e' w' => e' = .returned (.bool true) ∧ w = w') := Lib.hid (fun w => by have := validEarlier_any e.prevTx e.lsn w; rwa [h2] at this)
  have C3 : Hid (∀ w, Calls Tryd.prog 32 #[.int .i64 e.prevPage, .int .i64 e.lsn] w fun e' w' => e' = .returned (.bool true) ∧ w = w') := Lib.hid (fun w => by have := validEarlier_any e.prevPage e.lsn w; rwa [h3] at this)
  have C4 : Hid (∀ w, Calls Tryd.prog 32 #[.int .i64 e.ref, .int .i64 e.lsn] w fun e' w' => e' = .returned (.bool true) ∧ w = w') := Lib.hid (fun w => by have := validEarlier_any e.ref e.lsn w; rwa [h4] at this)
  clear h2
  clear h3
  clear h4
  go_enter Tryd.func23, Tryd.ntmps23
  go_wp2_with (first
    | (refine wp_boxEntW e rfl rfl rfl ?_; intro w0 hP hb0 hz0; have HC := Lib.hid hP; have HB := Lib.hid hb0; obtain ⟨a0, a1, a2, a3, a4, a5, a6, a7, a8, a9, a10, a11, a12⟩ := hP.all; clear hP hb0 hz0)
    | (go_at_call 32; (with_reducible refine (C2.out _).mono ?_); rintro e1 w1 ⟨rfl, rfl⟩)
    | (go_at_call 32; (with_reducible refine (C3.out _).mono ?_); rintro e1 w1 ⟨rfl, rfl⟩)
    | (go_at_call 32; (with_reducible refine (C4.out _).mono ?_); rintro e1 w1 ⟨rfl, rfl⟩))
  go_ret
  exact ⟨rfl, HB.out⟩

def allowB (e : Ent) : Bool :=
  if e.kind = 1 then linksChangeB e && (validH e.change && noBlobB e.blob)
  else if e.kind = 2 then linksUndoB e && (validH e.change && noBlobB e.blob)
  else if e.kind = 3 ∨ e.kind = 4 ∨ e.kind = 5 then linksTurnB e && (noChangeB e.change && noBlobB e.blob)
  else if e.kind = 7 then linksPageB e && (pageAloneB e.change && noBlobB e.blob)
  else linksNothingB e && (noChangeB e.change && someBlobB e.blob)
def validE (e : Ent) : Bool := kindB e.kind && (numsB e && allowB e)
def FitsE (e : Ent) : Prop := FitsH e.change ∧ e.blob.size ≤ 9223372036854775807
set_option maxRecDepth 4000 in
set_option maxHeartbeats 2000000 in
theorem valid_kind (e : Ent) (hk : kindB e.kind = false) (w : World) : Calls Tryd.prog 13 #[.agg e.arr] w fun e' w' => e' = .returned (.bool false) ∧ Below w.heap.size w w' := by
  have C1 : Hid (Says 22 #[.int .i64 e.kind] false) := Lib.hid fun w => (validKind_any e.kind w).mono fun e' w' h => ⟨h.1.trans (by rw [hk]), h.2 ▸ Below.refl _ _⟩
  go_enter Tryd.func13, Tryd.ntmps13
  go_wp2_with (refine wp_boxEntW e rfl rfl rfl ?_; intro w0 hP hb0 hz0; have HS := Lib.hid (St.add (st_nil hb0) hP); clear hP hb0 hz0)
  refine wp_region_held_drew (S := St [(w.heap.size, e.vals)] w) (by kernel_rfl) HS.out.drew (fun hHeld => ?_)
  refine wpAnyH_take (i := 0) (v := ?_) rfl (by kernel_rfl) (by kernel_rfl) (by kernel_rfl) (fun _ _ _ h => h) (Or.inl ⟨by rfl, ?_⟩) (by assumption) ?_
  rotate_left
  · (intro W _; go_simp; try with_reducible rfl)
  try simp only [Act.put, List.getElem_toArray, List.getElem_cons_zero, List.setIfInBounds_toArray, List.set_cons_zero, List.set_cons_succ]
  refine wpAnyH_take (i := 1) (v := ?_) rfl (by kernel_rfl) (by kernel_rfl) (by kernel_rfl) (fun _ _ _ h => h) (Or.inl ⟨by rfl, ?_⟩) (by assumption) ?_
  rotate_left
  · (intro W hSw; have c0 := (St.row hSw (b := w.heap.size) (vs := e.vals) (by simp)).cells 1 _ rfl; clear hSw; go_simp; try with_reducible rfl)
  try simp only [Act.put, List.getElem_toArray, List.getElem_cons_zero, List.getElem_cons_succ, List.setIfInBounds_toArray, List.set_cons_zero, List.set_cons_succ]
  refine wpAnyH_ready (rs := [2]) (by kernel_rfl) (by simp) (AllReadyH.cons rfl (fun K hK => ?_) AllReadyH.nil)
  go_simp
  go_wp2_with (go_at_call 22; (with_reducible refine (C1.out _).mono ?_); rintro e W1_1 ⟨rfl, hb1_3⟩)
  refine hK.out _ _ (hHeld.keep hb1_3) (fun hH1_2 => ?_)
  clear hK K
  try simp only [Act.put, List.getElem_toArray, List.getElem_cons_zero, List.getElem_cons_succ, List.setIfInBounds_toArray, List.set_cons_zero, List.set_cons_succ]
  refine wpAnyH_take (i := 3) (v := ?_) rfl (by kernel_rfl) (by kernel_rfl) (by kernel_rfl) (fun _ _ _ h => h) (Or.inl ⟨by rfl, ?_⟩) (by assumption) ?_
  rotate_left
  · (intro W _; go_simp; try with_reducible rfl)
  try simp only [Act.put, List.getElem_toArray, List.getElem_cons_zero, List.getElem_cons_succ, List.setIfInBounds_toArray, List.set_cons_zero, List.set_cons_succ]
  refine wpAnyH_take (i := 4) (v := undef) rfl (by kernel_rfl) (by kernel_rfl) (by kernel_rfl) (fun _ _ _ h => h) (Or.inr ⟨by rfl, rfl⟩) (by assumption) ?_
  try simp only [Act.put, List.getElem_toArray, List.getElem_cons_zero, List.getElem_cons_succ, List.setIfInBounds_toArray, List.set_cons_zero, List.set_cons_succ]
  refine wpAnyH_take (i := 5) (v := undef) rfl (by kernel_rfl) (by kernel_rfl) (by kernel_rfl) (fun _ _ _ h => h) (Or.inr ⟨by rfl, rfl⟩) (by assumption) ?_
  try simp only [Act.put, List.getElem_toArray, List.getElem_cons_zero, List.getElem_cons_succ, List.setIfInBounds_toArray, List.set_cons_zero, List.set_cons_succ]
  refine wpAnyH_take (i := 6) (v := ?_) rfl (by kernel_rfl) (by kernel_rfl) (by kernel_rfl) (fun _ _ _ h => h) (Or.inl ⟨by rfl, ?_⟩) (by assumption) ?_
  rotate_left
  · (intro W _; go_simp; try with_reducible rfl)
  try simp only [Act.put, List.getElem_toArray, List.getElem_cons_zero, List.getElem_cons_succ, List.setIfInBounds_toArray, List.set_cons_zero, List.set_cons_succ]
  refine wpAnyH_take (i := 7) (v := ?_) rfl (by kernel_rfl) (by kernel_rfl) (by kernel_rfl) (fun _ _ _ h => h) (Or.inl ⟨by rfl, ?_⟩) (by assumption) ?_
  rotate_left
  · (intro W _; go_simp; try with_reducible rfl)
  try simp only [Act.put, List.getElem_toArray, List.getElem_cons_zero, List.getElem_cons_succ, List.setIfInBounds_toArray, List.set_cons_zero, List.set_cons_succ]
  refine wpAnyH_take (i := 8) (v := undef) rfl (by kernel_rfl) (by kernel_rfl) (by kernel_rfl) (fun _ _ _ h => h) (Or.inr ⟨by rfl, rfl⟩) (by assumption) ?_
  try simp only [Act.put, List.getElem_toArray, List.getElem_cons_zero, List.getElem_cons_succ, List.setIfInBounds_toArray, List.set_cons_zero, List.set_cons_succ]
  refine wpAnyH_take (i := 9) (v := undef) rfl (by kernel_rfl) (by kernel_rfl) (by kernel_rfl) (fun _ _ _ h => h) (Or.inr ⟨by rfl, rfl⟩) (by assumption) ?_
  try simp only [Act.put, List.getElem_toArray, List.getElem_cons_zero, List.getElem_cons_succ, List.setIfInBounds_toArray, List.set_cons_zero, List.set_cons_succ]
  refine wpAnyH_take (i := 10) (v := undef) rfl (by kernel_rfl) (by kernel_rfl) (by kernel_rfl) (fun _ _ _ h => h) (Or.inr ⟨by rfl, rfl⟩) (by assumption) ?_
  try simp only [Act.put, List.getElem_toArray, List.getElem_cons_zero, List.getElem_cons_succ, List.setIfInBounds_toArray, List.set_cons_zero, List.set_cons_succ]
  refine wpAnyH_take (i := 11) (v := undef) rfl (by kernel_rfl) (by kernel_rfl) (by kernel_rfl) (fun _ _ _ h => h) (Or.inr ⟨by rfl, rfl⟩) (by assumption) ?_
  try simp only [Act.put, List.getElem_toArray, List.getElem_cons_zero, List.getElem_cons_succ, List.setIfInBounds_toArray, List.set_cons_zero, List.set_cons_succ]
  refine wpAnyH_take (i := 12) (v := undef) rfl (by kernel_rfl) (by kernel_rfl) (by kernel_rfl) (fun _ _ _ h => h) (Or.inr ⟨by rfl, rfl⟩) (by assumption) ?_
  try simp only [Act.put, List.getElem_toArray, List.getElem_cons_zero, List.getElem_cons_succ, List.setIfInBounds_toArray, List.set_cons_zero, List.set_cons_succ]
  refine wpAnyH_take (i := 13) (v := undef) rfl (by kernel_rfl) (by kernel_rfl) (by kernel_rfl) (fun _ _ _ h => h) (Or.inr ⟨by rfl, rfl⟩) (by assumption) ?_
  try simp only [Act.put, List.getElem_toArray, List.getElem_cons_zero, List.getElem_cons_succ, List.setIfInBounds_toArray, List.set_cons_zero, List.set_cons_succ]
  refine wpAnyH_take (i := 14) (v := ?_) rfl (by kernel_rfl) (by kernel_rfl) (by kernel_rfl) (fun _ _ _ h => h) (Or.inl ⟨by rfl, ?_⟩) (by assumption) ?_
  rotate_left
  · (intro W _; go_simp; try with_reducible rfl)
  try simp only [Act.put, List.getElem_toArray, List.getElem_cons_zero, List.getElem_cons_succ, List.setIfInBounds_toArray, List.set_cons_zero, List.set_cons_succ]
  refine wpAnyH_take (i := 15) (v := ?_) rfl (by kernel_rfl) (by kernel_rfl) (by kernel_rfl) (fun _ _ _ h => h) (Or.inl ⟨by rfl, ?_⟩) (by assumption) ?_
  rotate_left
  · (intro W _; go_simp; try with_reducible rfl)
  try simp only [Act.put, List.getElem_toArray, List.getElem_cons_zero, List.getElem_cons_succ, List.setIfInBounds_toArray, List.set_cons_zero, List.set_cons_succ]
  refine wpAnyH_done (by kernel_rfl) ?_ _
  go_wp2
  go_ret
  exact ⟨rfl, hH1_2.2⟩

set_option maxRecDepth 4000 in
set_option maxHeartbeats 2000000 in
theorem valid_nums (e : Ent) (hk : kindB e.kind = true) (hn : numsB e = false) (w : World) : Calls Tryd.prog 13 #[.agg e.arr] w fun e' w' => e' = .returned (.bool false) ∧ Below w.heap.size w w' := by
  have C1 : Hid (Says 22 #[.int .i64 e.kind] true) := Lib.hid fun w => (validKind_any e.kind w).mono fun e' w' h => ⟨h.1.trans (by rw [hk]), h.2 ▸ Below.refl _ _⟩
  have C2 : Hid (Says 23 #[.agg e.arr] false) := Lib.hid fun w => by have := validNumbers_any e w; rwa [hn] at this
  go_enter Tryd.func13, Tryd.ntmps13
  go_wp2_with (refine wp_boxEntW e rfl rfl rfl ?_; intro w0 hP hb0 hz0; have HS := Lib.hid (St.add (st_nil hb0) hP); clear hP hb0 hz0)
  refine wp_region_held_drew (S := St [(w.heap.size, e.vals)] w) (by kernel_rfl) HS.out.drew (fun hHeld => ?_)
  refine wpAnyH_take (i := 0) (v := ?_) rfl (by kernel_rfl) (by kernel_rfl) (by kernel_rfl) (fun _ _ _ h => h) (Or.inl ⟨by rfl, ?_⟩) (by assumption) ?_
  rotate_left
  · (intro W _; go_simp; try with_reducible rfl)
  try simp only [Act.put, List.getElem_toArray, List.getElem_cons_zero, List.setIfInBounds_toArray, List.set_cons_zero, List.set_cons_succ]
  refine wpAnyH_take (i := 1) (v := ?_) rfl (by kernel_rfl) (by kernel_rfl) (by kernel_rfl) (fun _ _ _ h => h) (Or.inl ⟨by rfl, ?_⟩) (by assumption) ?_
  rotate_left
  · (intro W hSw; have c0 := (St.row hSw (b := w.heap.size) (vs := e.vals) (by simp)).cells 1 _ rfl; clear hSw; go_simp; try with_reducible rfl)
  try simp only [Act.put, List.getElem_toArray, List.getElem_cons_zero, List.getElem_cons_succ, List.setIfInBounds_toArray, List.set_cons_zero, List.set_cons_succ]
  refine wpAnyH_ready (rs := [2]) (by kernel_rfl) (by simp) (AllReadyH.cons rfl (fun K hK => ?_) AllReadyH.nil)
  go_simp
  go_wp2_with (go_at_call 22; (with_reducible refine (C1.out _).mono ?_); rintro e W1_1 ⟨rfl, hb1_3⟩)
  refine hK.out _ _ (hHeld.keep hb1_3) (fun hH1_2 => ?_)
  clear hK K
  try simp only [Act.put, List.getElem_toArray, List.getElem_cons_zero, List.getElem_cons_succ, List.setIfInBounds_toArray, List.set_cons_zero, List.set_cons_succ]
  refine wpAnyH_take (i := 3) (v := ?_) rfl (by kernel_rfl) (by kernel_rfl) (by kernel_rfl) (fun _ _ _ h => h) (Or.inl ⟨by rfl, ?_⟩) (by assumption) ?_
  rotate_left
  · (intro W _; go_simp; try with_reducible rfl)
  try simp only [Act.put, List.getElem_toArray, List.getElem_cons_zero, List.getElem_cons_succ, List.setIfInBounds_toArray, List.set_cons_zero, List.set_cons_succ]
  refine wpAnyH_take (i := 4) (v := (.agg (Ent.arr e))) rfl (by kernel_rfl) (by kernel_rfl) (by kernel_rfl) (fun _ _ _ h => h) (yieldsIf_load_mid (by rfl) 31 _ rfl w.heap.size 0 rfl (Ent.vals e) _ (fun W hSw => RowAt.range (St.row hSw (b := w.heap.size) (vs := (Ent.vals e)) (by simp)) 0 (fun j v hv => by rw [Nat.zero_add]; exact hv)) Tryd.underlying31 rfl info_ent) (by assumption) ?_
  try simp only [Act.put, List.getElem_toArray, List.getElem_cons_zero, List.getElem_cons_succ, List.setIfInBounds_toArray, List.set_cons_zero, List.set_cons_succ]
  refine wpAnyH_ready (rs := [5]) (by kernel_rfl) (by simp) (AllReadyH.cons rfl (fun K hK => ?_) AllReadyH.nil)
  go_simp
  go_wp2_with (go_at_call 23; (with_reducible refine (C2.out _).mono ?_); rintro e W1_4 ⟨rfl, hb1_6⟩)
  refine hK.out _ _ (hH1_2.keep hb1_6) (fun hH1_5 => ?_)
  clear hK K
  try simp only [Act.put, List.getElem_toArray, List.getElem_cons_zero, List.getElem_cons_succ, List.setIfInBounds_toArray, List.set_cons_zero, List.set_cons_succ]
  refine wpAnyH_take (i := 6) (v := ?_) rfl (by kernel_rfl) (by kernel_rfl) (by kernel_rfl) (fun _ _ _ h => h) (Or.inl ⟨by rfl, ?_⟩) (by assumption) ?_
  rotate_left
  · (intro W _; go_simp; try with_reducible rfl)
  try simp only [Act.put, List.getElem_toArray, List.getElem_cons_zero, List.getElem_cons_succ, List.setIfInBounds_toArray, List.set_cons_zero, List.set_cons_succ]
  refine wpAnyH_take (i := 7) (v := ?_) rfl (by kernel_rfl) (by kernel_rfl) (by kernel_rfl) (fun _ _ _ h => h) (Or.inl ⟨by rfl, ?_⟩) (by assumption) ?_
  rotate_left
  · (intro W _; go_simp; try with_reducible rfl)
  try simp only [Act.put, List.getElem_toArray, List.getElem_cons_zero, List.getElem_cons_succ, List.setIfInBounds_toArray, List.set_cons_zero, List.set_cons_succ]
  refine wpAnyH_take (i := 8) (v := undef) rfl (by kernel_rfl) (by kernel_rfl) (by kernel_rfl) (fun _ _ _ h => h) (Or.inr ⟨by rfl, rfl⟩) (by assumption) ?_
  try simp only [Act.put, List.getElem_toArray, List.getElem_cons_zero, List.getElem_cons_succ, List.setIfInBounds_toArray, List.set_cons_zero, List.set_cons_succ]
  refine wpAnyH_take (i := 9) (v := undef) rfl (by kernel_rfl) (by kernel_rfl) (by kernel_rfl) (fun _ _ _ h => h) (Or.inr ⟨by rfl, rfl⟩) (by assumption) ?_
  try simp only [Act.put, List.getElem_toArray, List.getElem_cons_zero, List.getElem_cons_succ, List.setIfInBounds_toArray, List.set_cons_zero, List.set_cons_succ]
  refine wpAnyH_take (i := 10) (v := undef) rfl (by kernel_rfl) (by kernel_rfl) (by kernel_rfl) (fun _ _ _ h => h) (Or.inr ⟨by rfl, rfl⟩) (by assumption) ?_
  try simp only [Act.put, List.getElem_toArray, List.getElem_cons_zero, List.getElem_cons_succ, List.setIfInBounds_toArray, List.set_cons_zero, List.set_cons_succ]
  refine wpAnyH_take (i := 11) (v := undef) rfl (by kernel_rfl) (by kernel_rfl) (by kernel_rfl) (fun _ _ _ h => h) (Or.inr ⟨by rfl, rfl⟩) (by assumption) ?_
  try simp only [Act.put, List.getElem_toArray, List.getElem_cons_zero, List.getElem_cons_succ, List.setIfInBounds_toArray, List.set_cons_zero, List.set_cons_succ]
  refine wpAnyH_take (i := 12) (v := undef) rfl (by kernel_rfl) (by kernel_rfl) (by kernel_rfl) (fun _ _ _ h => h) (Or.inr ⟨by rfl, rfl⟩) (by assumption) ?_
  try simp only [Act.put, List.getElem_toArray, List.getElem_cons_zero, List.getElem_cons_succ, List.setIfInBounds_toArray, List.set_cons_zero, List.set_cons_succ]
  refine wpAnyH_take (i := 13) (v := undef) rfl (by kernel_rfl) (by kernel_rfl) (by kernel_rfl) (fun _ _ _ h => h) (Or.inr ⟨by rfl, rfl⟩) (by assumption) ?_
  try simp only [Act.put, List.getElem_toArray, List.getElem_cons_zero, List.getElem_cons_succ, List.setIfInBounds_toArray, List.set_cons_zero, List.set_cons_succ]
  refine wpAnyH_take (i := 14) (v := ?_) rfl (by kernel_rfl) (by kernel_rfl) (by kernel_rfl) (fun _ _ _ h => h) (Or.inl ⟨by rfl, ?_⟩) (by assumption) ?_
  rotate_left
  · (intro W _; go_simp; try with_reducible rfl)
  try simp only [Act.put, List.getElem_toArray, List.getElem_cons_zero, List.getElem_cons_succ, List.setIfInBounds_toArray, List.set_cons_zero, List.set_cons_succ]
  refine wpAnyH_take (i := 15) (v := ?_) rfl (by kernel_rfl) (by kernel_rfl) (by kernel_rfl) (fun _ _ _ h => h) (Or.inl ⟨by rfl, ?_⟩) (by assumption) ?_
  rotate_left
  · (intro W _; go_simp; try with_reducible rfl)
  try simp only [Act.put, List.getElem_toArray, List.getElem_cons_zero, List.getElem_cons_succ, List.setIfInBounds_toArray, List.set_cons_zero, List.set_cons_succ]
  refine wpAnyH_done (by kernel_rfl) ?_ _
  go_wp2
  go_ret
  exact ⟨rfl, hH1_5.2⟩

set_option maxRecDepth 4000 in
set_option maxHeartbeats 2000000 in
theorem valid_yes (e : Ent) (k : Int) (rl : List Value) (b : Bool) (hk : e.kind = k) (hkk : kindB k = true) (hn : numsB e = true) (hidx : ∀ W, (Instr.index 54 (.agg ruleVals.toArray) (.int .i64 k)).run Tryd.prog W = .ok (.agg rl.toArray) W)
    (hal : Says 25 #[.agg rl.toArray, .agg e.arr] b) (w : World) : Calls Tryd.prog 13 #[.agg e.arr] w fun e' w' => e' = .returned (.bool b) ∧ Below w.heap.size w w' := by
  have C1 : Hid (Says 22 #[.int .i64 k] true) := Lib.hid fun w => (validKind_any k w).mono fun e' w' h => ⟨h.1.trans (by rw [hkk]), h.2 ▸ Below.refl _ _⟩
  have C2 : Hid (Says 23 #[.agg e.arr] true) := Lib.hid fun w => by have := validNumbers_any e w; rwa [hn] at this
  have C3 := Lib.hid hal
  have HK : Hid (some (Value.int .i64 e.kind) = some (Value.int .i64 k)) := Lib.hid (by rw [hk])
  clear hal hkk hn hk
  go_enter Tryd.func13, Tryd.ntmps13
  go_wp2_with (refine wp_boxEntW e rfl rfl rfl ?_; intro w0 hP hb0 hz0; have HS := Lib.hid (St.add (st_nil hb0) hP); clear hP hb0 hz0)
  refine wp_region_held_drew (S := St [(w.heap.size, e.vals)] w) (by kernel_rfl) HS.out.drew (fun hHeld => ?_)
  refine wpAnyH_take (i := 0) (v := ?_) rfl (by kernel_rfl) (by kernel_rfl) (by kernel_rfl) (fun _ _ _ h => h) (Or.inl ⟨by rfl, ?_⟩) (by assumption) ?_
  rotate_left
  · (intro W _; go_simp; try with_reducible rfl)
  try simp only [Act.put, List.getElem_toArray, List.getElem_cons_zero, List.setIfInBounds_toArray, List.set_cons_zero, List.set_cons_succ]
  refine wpAnyH_take (i := 1) (v := ?_) rfl (by kernel_rfl) (by kernel_rfl) (by kernel_rfl) (fun _ _ _ h => h) (Or.inl ⟨by rfl, ?_⟩) (by assumption) ?_
  rotate_left
  · (intro W hSw; have c0 := (St.row hSw (b := w.heap.size) (vs := e.vals) (by simp)).cells 1 _ rfl; clear hSw; replace c0 := c0.trans HK.out; go_simp; try with_reducible rfl)
  try simp only [Act.put, List.getElem_toArray, List.getElem_cons_zero, List.getElem_cons_succ, List.setIfInBounds_toArray, List.set_cons_zero, List.set_cons_succ]
  refine wpAnyH_ready (rs := [2]) (by kernel_rfl) (by simp) (AllReadyH.cons rfl (fun K hK => ?_) AllReadyH.nil)
  go_simp
  go_wp2_with (go_at_call 22; (with_reducible refine (C1.out _).mono ?_); rintro e W1_1 ⟨rfl, hb1_3⟩)
  refine hK.out _ _ (hHeld.keep hb1_3) (fun hH1_2 => ?_)
  clear hK K
  try simp only [Act.put, List.getElem_toArray, List.getElem_cons_zero, List.getElem_cons_succ, List.setIfInBounds_toArray, List.set_cons_zero, List.set_cons_succ]
  refine wpAnyH_take (i := 3) (v := ?_) rfl (by kernel_rfl) (by kernel_rfl) (by kernel_rfl) (fun _ _ _ h => h) (Or.inl ⟨by rfl, ?_⟩) (by assumption) ?_
  rotate_left
  · (intro W _; go_simp; try with_reducible rfl)
  try simp only [Act.put, List.getElem_toArray, List.getElem_cons_zero, List.getElem_cons_succ, List.setIfInBounds_toArray, List.set_cons_zero, List.set_cons_succ]
  refine wpAnyH_take (i := 4) (v := (.agg (Ent.arr e))) rfl (by kernel_rfl) (by kernel_rfl) (by kernel_rfl) (fun _ _ _ h => h) (yieldsIf_load_mid (by rfl) 31 _ rfl w.heap.size 0 rfl (Ent.vals e) _ (fun W hSw => RowAt.range (St.row hSw (b := w.heap.size) (vs := (Ent.vals e)) (by simp)) 0 (fun j v hv => by rw [Nat.zero_add]; exact hv)) Tryd.underlying31 rfl info_ent) (by assumption) ?_
  try simp only [Act.put, List.getElem_toArray, List.getElem_cons_zero, List.getElem_cons_succ, List.setIfInBounds_toArray, List.set_cons_zero, List.set_cons_succ]
  refine wpAnyH_ready (rs := [5]) (by kernel_rfl) (by simp) (AllReadyH.cons rfl (fun K hK => ?_) AllReadyH.nil)
  go_simp
  go_wp2_with (go_at_call 23; (with_reducible refine (C2.out _).mono ?_); rintro e W1_4 ⟨rfl, hb1_6⟩)
  refine hK.out _ _ (hH1_2.keep hb1_6) (fun hH1_5 => ?_)
  clear hK K
  try simp only [Act.put, List.getElem_toArray, List.getElem_cons_zero, List.getElem_cons_succ, List.setIfInBounds_toArray, List.set_cons_zero, List.set_cons_succ]
  refine wpAnyH_take (i := 6) (v := ?_) rfl (by kernel_rfl) (by kernel_rfl) (by kernel_rfl) (fun _ _ _ h => h) (Or.inl ⟨by rfl, ?_⟩) (by assumption) ?_
  rotate_left
  · (intro W _; go_simp; try with_reducible rfl)
  try simp only [Act.put, List.getElem_toArray, List.getElem_cons_zero, List.getElem_cons_succ, List.setIfInBounds_toArray, List.set_cons_zero, List.set_cons_succ]
  refine wpAnyH_take (i := 7) (v := ?_) rfl (by kernel_rfl) (by kernel_rfl) (by kernel_rfl) (fun _ _ _ h => h) (Or.inl ⟨by rfl, ?_⟩) (by assumption) ?_
  rotate_left
  · (intro W _; go_simp; try with_reducible rfl)
  try simp only [Act.put, List.getElem_toArray, List.getElem_cons_zero, List.getElem_cons_succ, List.setIfInBounds_toArray, List.set_cons_zero, List.set_cons_succ]
  refine wpAnyH_take (i := 9) (v := ?_) rfl (by kernel_rfl) (by kernel_rfl) (by kernel_rfl) (fun _ _ _ h => h) (Or.inl ⟨by rfl, ?_⟩) (by assumption) ?_
  rotate_left
  · (intro W _; go_simp; try with_reducible rfl)
  try simp only [Act.put, List.getElem_toArray, List.getElem_cons_zero, List.getElem_cons_succ, List.setIfInBounds_toArray, List.set_cons_zero, List.set_cons_succ]
  refine wpAnyH_take (i := 10) (v := ?_) rfl (by kernel_rfl) (by kernel_rfl) (by kernel_rfl) (fun _ _ _ h => h) (Or.inl ⟨by rfl, ?_⟩) (by assumption) ?_
  rotate_left
  · (intro W hSw; have c0 := (St.row hSw (b := w.heap.size) (vs := e.vals) (by simp)).cells 1 _ rfl; clear hSw; replace c0 := c0.trans HK.out; go_simp; try with_reducible rfl)
  try simp only [Act.put, List.getElem_toArray, List.getElem_cons_zero, List.getElem_cons_succ, List.setIfInBounds_toArray, List.set_cons_zero, List.set_cons_succ]
  refine wpAnyH_take (i := 12) (v := (.agg (Ent.arr e))) rfl (by kernel_rfl) (by kernel_rfl) (by kernel_rfl) (fun _ _ _ h => h) (yieldsIf_load_mid (by rfl) 31 _ rfl w.heap.size 0 rfl (Ent.vals e) _ (fun W hSw => RowAt.range (St.row hSw (b := w.heap.size) (vs := (Ent.vals e)) (by simp)) 0 (fun j v hv => by rw [Nat.zero_add]; exact hv)) Tryd.underlying31 rfl info_ent) (by assumption) ?_
  try simp only [Act.put, List.getElem_toArray, List.getElem_cons_zero, List.getElem_cons_succ, List.setIfInBounds_toArray, List.set_cons_zero, List.set_cons_succ]
  refine wpAnyH_ready (rs := [8]) (by kernel_rfl) (by simp) (AllReadyH.cons rfl (fun K hK => ?_) AllReadyH.nil)
  go_simp
  go_wp2_with (go_at_call 24; (with_reducible refine (rules_any _).mono ?_); rintro e W1_7 ⟨rfl, hb1_9⟩)
  refine hK.out _ _ (hH1_5.keep hb1_9) (fun hH1_8 => ?_)
  clear hK K
  try simp only [Act.put, List.getElem_toArray, List.getElem_cons_zero, List.getElem_cons_succ, List.setIfInBounds_toArray, List.set_cons_zero, List.set_cons_succ]
  refine wpAnyH_take (i := 11) (v := ?_) rfl (by kernel_rfl) (by kernel_rfl) (by kernel_rfl) (fun _ _ _ h => h) (Or.inl ⟨by rfl, ?_⟩) (by assumption) ?_
  rotate_left
  · (intro W _; go_simp; try with_reducible rfl)
  try simp only [Act.put, List.getElem_toArray, List.getElem_cons_zero, List.getElem_cons_succ, List.setIfInBounds_toArray, List.set_cons_zero, List.set_cons_succ]
  refine wpAnyH_ready (rs := [13]) (by kernel_rfl) (by simp) (AllReadyH.cons rfl (fun K hK => ?_) AllReadyH.nil)
  go_simp
  go_wp2_with (go_at_call 25; (with_reducible refine (C3.out _).mono ?_); rintro e W1_10 ⟨rfl, hb1_12⟩)
  refine hK.out _ _ (hH1_8.keep hb1_12) (fun hH1_11 => ?_)
  clear hK K
  try simp only [Act.put, List.getElem_toArray, List.getElem_cons_zero, List.getElem_cons_succ, List.setIfInBounds_toArray, List.set_cons_zero, List.set_cons_succ]
  refine wpAnyH_take (i := 14) (v := ?_) rfl (by kernel_rfl) (by kernel_rfl) (by kernel_rfl) (fun _ _ _ h => h) (Or.inl ⟨by rfl, ?_⟩) (by assumption) ?_
  rotate_left
  · (intro W _; go_simp; try with_reducible rfl)
  try simp only [Act.put, List.getElem_toArray, List.getElem_cons_zero, List.getElem_cons_succ, List.setIfInBounds_toArray, List.set_cons_zero, List.set_cons_succ]
  refine wpAnyH_take (i := 15) (v := ?_) rfl (by kernel_rfl) (by kernel_rfl) (by kernel_rfl) (fun _ _ _ h => h) (Or.inl ⟨by rfl, ?_⟩) (by assumption) ?_
  rotate_left
  · (intro W _; go_simp; try with_reducible rfl)
  try simp only [Act.put, List.getElem_toArray, List.getElem_cons_zero, List.getElem_cons_succ, List.setIfInBounds_toArray, List.set_cons_zero, List.set_cons_succ]
  refine wpAnyH_done (by kernel_rfl) ?_ _
  go_wp2
  go_ret
  exact ⟨rfl, hH1_11.2⟩

theorem says_same {k : Nat} {args : Array Value} {b : Bool} (h : ∀ w, Calls Tryd.prog k args w fun e w' => e = .returned (.bool b) ∧ w = w') : Says k args b := fun w => (h w).mono fun _ _ h => ⟨h.1, h.2 ▸ Below.refl _ _⟩
theorem valid_any (e : Ent) (w : World) (hf : FitsE e) : Calls Tryd.prog 13 #[.agg e.arr] w fun e' w' => e' = .returned (.bool (validE e)) ∧ Below w.heap.size w w' := by
  unfold validE
  cases hk : kindB e.kind
  · exact valid_kind e hk w
  cases hn : numsB e
  · exact valid_nums e hk hn w
  obtain ⟨i1, i2, i3, i4, i5, i6, i7, i8⟩ : _ ∧ _ ∧ _ ∧ _ ∧ _ ∧ _ ∧ _ ∧ _ := ⟨fun W => (index_rules W).1, fun W => (index_rules W).2.1, fun W => (index_rules W).2.2.1, fun W => (index_rules W).2.2.2.1, fun W => (index_rules W).2.2.2.2.1, fun W => (index_rules W).2.2.2.2.2.1, fun W => (index_rules W).2.2.2.2.2.2.1, fun W => (index_rules W).2.2.2.2.2.2.2⟩
  have hkk : e.kind = 1 ∨ e.kind = 2 ∨ e.kind = 3 ∨ e.kind = 4 ∨ e.kind = 5 ∨ e.kind = 6 ∨ e.kind = 7 ∨ e.kind = 8 := by
    unfold kindB at hk
    simp only [Bool.and_eq_true, decide_eq_true_eq] at hk
    omega
  rw [Bool.true_and, Bool.true_and]
  have nb := says_same fun w => noBlob_any e.blob w
  have sb := says_same fun w => someBlob_any e.blob w hf.2
  rcases hkk with h | h | h | h | h | h | h | h
  · have := valid_yes e 1 _ _ h (by decide) hn i1 (allows_any _ _ _ (fun _ _ => rfl) (fun _ _ => rfl) (fun _ _ => rfl) _ _ _ e (linksChange_any e) (fun w => kb.valid_any e.change w hf.1) nb) w
    simpa only [allowB, h, if_pos] using this
  · have := valid_yes e 2 _ _ h (by decide) hn i2 (allows_any _ _ _ (fun _ _ => rfl) (fun _ _ => rfl) (fun _ _ => rfl) _ _ _ e (linksUndo_any e) (fun w => kb.valid_any e.change w hf.1) nb) w
    simpa [allowB, h] using this
  · have := valid_yes e 3 _ _ h (by decide) hn i3 (allows_any _ _ _ (fun _ _ => rfl) (fun _ _ => rfl) (fun _ _ => rfl) _ _ _ e (linksTurn_any e) (noChange_any e.change) nb) w
    simpa [allowB, h] using this
  · have := valid_yes e 4 _ _ h (by decide) hn i4 (allows_any _ _ _ (fun _ _ => rfl) (fun _ _ => rfl) (fun _ _ => rfl) _ _ _ e (linksTurn_any e) (noChange_any e.change) nb) w
    simpa [allowB, h] using this
  · have := valid_yes e 5 _ _ h (by decide) hn i5 (allows_any _ _ _ (fun _ _ => rfl) (fun _ _ => rfl) (fun _ _ => rfl) _ _ _ e (linksTurn_any e) (noChange_any e.change) nb) w
    simpa [allowB, h] using this
  · have := valid_yes e 6 _ _ h (by decide) hn i6 (allows_any _ _ _ (fun _ _ => rfl) (fun _ _ => rfl) (fun _ _ => rfl) _ _ _ e (linksNothing_any e) (noChange_any e.change) sb) w
    simpa [allowB, h] using this
  · have := valid_yes e 7 _ _ h (by decide) hn i7 (allows_any _ _ _ (fun _ _ => rfl) (fun _ _ => rfl) (fun _ _ => rfl) _ _ _ e (linksPage_any e) (pageAlone_any e.change) nb) w
    simpa [allowB, h] using this
  · have := valid_yes e 8 _ _ h (by decide) hn i8 (allows_any _ _ _ (fun _ _ => rfl) (fun _ _ => rfl) (fun _ _ => rfl) _ _ _ e (linksNothing_any e) (noChange_any e.change) sb) w
    simpa [allowB, h] using this
end Go.Proofs.YtmlclccfmlcabaaDoor.od
