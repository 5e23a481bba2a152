/- The reference's Diff. -/
import Derived.Test.YtkcgcddpgfcgiaaKr
namespace Go.Proofs.Ytkcgcddpgfcgiaa.ks
open Go.ChangeShapes Go.WideShapes Go.ChangeAt Go.RowKit Go.Proofs.Ytkcgcddpgfcgiaa.cx Go.Proofs.Ytkcgcddpgfcgiaa.ra Go.Proofs.Ytkcgcddpgfcgiaa.rc Go.Proofs.Ytkcgcddpgfcgiaa.da Go.Proofs.Ytkcgcddpgfcgiaa.di Go.Proofs.Ytkcgcddpgfcgiaa.ea Go.Proofs.Ytkcgcddpgfcgiaa.eb Go.Proofs.Ytkcgcddpgfcgiaa.ec Go.Proofs.Ytkcgcddpgfcgiaa.ed Go.Proofs.Ytkcgcddpgfcgiaa.fb Go.Proofs.Ytkcgcddpgfcgiaa.ka Go.Proofs.Ytkcgcddpgfcgiaa.kb Go.Proofs.Ytkcgcddpgfcgiaa.kc Go.Proofs.Ytkcgcddpgfcgiaa.kd Go.Proofs.Ytkcgcddpgfcgiaa.ke Go.Proofs.Ytkcgcddpgfcgiaa.kf Go.Proofs.Ytkcgcddpgfcgiaa.kg Go.Proofs.Ytkcgcddpgfcgiaa.ki Go.Proofs.Ytkcgcddpgfcgiaa.kj Go.Proofs.Ytkcgcddpgfcgiaa.kk Go.Proofs.Ytkcgcddpgfcgiaa.km Go.Proofs.Ytkcgcddpgfcgiaa.kn Go.Proofs.Ytkcgcddpgfcgiaa.kp Go.Proofs.Ytkcgcddpgfcgiaa.kq Go.Proofs.Ytkcgcddpgfcgiaa.kr

theorem yieldsIf_id {ops : Array Oper} {S : World → Prop} {op : Oper} {a : Act} {x : Operand} {b : Nat} (p : Pg) (hw : Region.wanted op (yielded ops a.tmps) = true) (ho : op.op = .load 3 x)
    (hx : a.eval x = .pointer (some ⟨b, 0, none⟩)) (hS : ∀ W, S W → RowAt b p.vals W) : YieldsIf Try.prog ops S op (.int .i64 p.id) a :=
  .inl ⟨hw, fun W hW => by
    have i0 := PgAt.idAt (p := p) (hS W hW)
    unfold execOp
    simp only [ho, hx]
    go_simp⟩
theorem refDiff_22 {a b : Pg} {w W : World} (h1 : (a.id != b.id) = false) (h2 : idB a.id = true) (h3 : vcB a = false ∨ vcB b = false) (hb : Below w.heap.size w W) : DiffR a b w (.returned (.tuple #[.slice none 0 0, .int .i64 22])) W := by
  have hE : diffE a b = 22 := by
    unfold diffE
    rw [h1, h2]
    rcases h3 with h3 | h3
    · rw [h3]; rfl
    · rw [h3]; cases vcB a <;> rfl
  unfold DiffR diffL
  rw [hE]
  exact ⟨_, rfl, World.ownsRow_nil _ _ _ _, hb⟩
theorem refDiff_n {a b : Pg} {w W : World} {n : Int} (hE : diffE a b = n) (hn : n ≠ 0) (hb : Below w.heap.size w W) : DiffR a b w (.returned (.tuple #[.slice none 0 0, .int .i64 n])) W := by
  unfold DiffR diffL
  rw [hE, if_neg hn]
  exact ⟨_, rfl, World.ownsRow_nil _ _ _ _, hb⟩
set_option maxRecDepth 4000 in
set_option maxHeartbeats 8000000 in
theorem refDiff_any (a b : Pg) (w : World) (ha : Fits a) (hb : Fits b) : Calls Try.prog 25 #[.agg a.arr, .agg b.arr] w (DiffR a b w) := by
  cases h1 : (a.id != b.id)
  rotate_left
  · have hE : diffE a b = 6 := by unfold diffE; rw [h1]; rfl
    have HE := Lib.hid hE
    clear hE
    go_enter Try.func25, Try.ntmps25
    go_wp2_with (first
      | (refine wp_boxPageW a rfl rfl rfl ?_; intro w0 hP hb0 hz0; have S1 := Lib.hid ((st_nil (Below.refl w.heap.size w)).first hb0 hP); have Z0 := Lib.hid hz0; clear hP hb0 hz0)
      | (refine wp_boxPageW b rfl rfl rfl ?_; intro w1 hP hb0 hz0; have S2 := Lib.hid (S1.out.first hb0 hP); have Z1 := Lib.hid hz0; have i0 := PgAt.idAt (p := b) (S2.out.row (List.mem_cons_self ..)); have i1 := PgAt.idAt (p := a) (S2.out.row (List.mem_cons_of_mem _ (List.mem_cons_self ..))); clear hP hb0 hz0 S1))
    go_ret2
    exact refDiff_n HE.out (by decide) S2.out.2
  by_cases p0 : a.id < 0
  · have hE : diffE a b = 1 := by unfold diffE; rw [h1, show idB a.id = false from decide_eq_false (by omega)]; rfl
    have HE := Lib.hid hE
    clear hE
    have d0 : decide (a.id < 0) = true := by simpa using p0
    go_enter Try.func25, Try.ntmps25
    go_wp2_with (first
      | (refine wp_boxPageW a rfl rfl rfl ?_; intro w0 hP hb0 hz0; have S1 := Lib.hid ((st_nil (Below.refl w.heap.size w)).first hb0 hP); have Z0 := Lib.hid hz0; clear hP hb0 hz0)
      | (refine wp_boxPageW b rfl rfl rfl ?_; intro w1 hP hb0 hz0; have S2 := Lib.hid (S1.out.first hb0 hP); have Z1 := Lib.hid hz0; have i0 := PgAt.idAt (p := b) (S2.out.row (List.mem_cons_self ..)); have i1 := PgAt.idAt (p := a) (S2.out.row (List.mem_cons_of_mem _ (List.mem_cons_self ..))); clear hP hb0 hz0 S1))
    go_ret2
    exact refDiff_n HE.out (by decide) S2.out.2
  have d0 : decide (a.id < 0) = false := by simpa using p0
  by_cases p1 : 64 ≤ a.id
  · have hE : diffE a b = 1 := by unfold diffE; rw [h1, show idB a.id = false from decide_eq_false (by omega)]; rfl
    have HE := Lib.hid hE
    clear hE
    have d1 : decide (64 ≤ a.id) = true := by simpa using p1
    go_enter Try.func25, Try.ntmps25
    go_wp2_with (first
      | (refine wp_boxPageW a rfl rfl rfl ?_; intro w0 hP hb0 hz0; have S1 := Lib.hid ((st_nil (Below.refl w.heap.size w)).first hb0 hP); have Z0 := Lib.hid hz0; clear hP hb0 hz0)
      | (refine wp_boxPageW b rfl rfl rfl ?_; intro w1 hP hb0 hz0; have S2 := Lib.hid (S1.out.first hb0 hP); have Z1 := Lib.hid hz0; have i0 := PgAt.idAt (p := b) (S2.out.row (List.mem_cons_self ..)); have i1 := PgAt.idAt (p := a) (S2.out.row (List.mem_cons_of_mem _ (List.mem_cons_self ..))); clear hP hb0 hz0 S1))
    go_ret2
    exact refDiff_n HE.out (by decide) S2.out.2
  have d1 : decide (64 ≤ a.id) = false := by simpa using p1
  have HID : Hid (idB a.id = true) := Lib.hid (decide_eq_true (by omega))
  have H1 := Lib.hid h1
  go_enter Try.func25, Try.ntmps25
  go_wp2_with (first
      | (refine wp_boxPageW a rfl rfl rfl ?_; intro w0 hP hb0 hz0; have S1 := Lib.hid ((st_nil (Below.refl w.heap.size w)).first hb0 hP); have Z0 := Lib.hid hz0; clear hP hb0 hz0)
      | (refine wp_boxPageW b rfl rfl rfl ?_; intro w1 hP hb0 hz0; have S2 := Lib.hid (S1.out.first hb0 hP); have Z1 := Lib.hid hz0; have i0 := PgAt.idAt (p := b) (S2.out.row (List.mem_cons_self ..)); have i1 := PgAt.idAt (p := a) (S2.out.row (List.mem_cons_of_mem _ (List.mem_cons_self ..))); clear hP hb0 hz0 S1))
  have hz0 := Z0.out
  have hz1 : w0.heap.size + 1 ≤ w1.heap.size := Z1.out
  clear i0 i1 h1 d0 d1
  generalize w0.heap.size = x1 at *
  clear Z0 Z1
  have OWN0 := Lib.hid (World.ownsRow_nil w1 (x1 + 1) 29 6)
  go_loopw [6, 7] (fun v i wr => ∃ jj : Nat, jj ≤ 16 ∧ i = .int .i64 jj ∧ (∀ i, i < jj → cellB (a.cell i) = true ∧ cellB (b.cell i) = true) ∧ x1 + 1 ≤ wr.heap.size ∧ St [(x1, b.vals), (w.heap.size, a.vals)] w wr ∧ wr.ownsRow (x1 + 1) 29 6 v (diffN a b jj).length (flat (diffN a b jj))) (fun _ i _ => 16 - (intOf i).toNat)
  case atStart => exact ⟨0, by omega, rfl, fun i hi => by omega, hz1, S2.out, OWN0.out⟩
  case round =>
    obtain ⟨jj, hj, rfl, hv, hsz, h1, h2⟩ := hrel
    have S3 := Lib.hid h1
    have O3 := Lib.hid h2
    have Z3 := Lib.hid hsz
    have HV := Lib.hid hv
    clear S2 OWN0 h1 h2 hz1 hsz hv
    by_cases hjn : jj < 16
    · have q0 : (0 : Int) ≤ (jj : Int) := by omega
      have q1 : (jj : Int) < 16 := by omega
      have PA := Lib.hid (page_cell a jj hjn)
      have PB := Lib.hid (page_cell b jj hjn)
      have hfa := ha jj hjn
      have hfb := hb jj hjn
      have HLEN := Lib.hid (diffN_len a b jj)
      cases hb1 : cellB (a.cell jj)
      · have HB1 := Lib.hid hb1
        clear hb1
        go_wp2_with (first
        | (refine wp_loadCellAt (a.cell jj) (2 + jj * 2) (S3.out.row (b := w.heap.size) (vs := a.vals) (by simp)) PA.out rfl rfl rfl ?_)
        | (refine wp_loadCellAt (b.cell jj) (2 + jj * 2) (S4.out.row (b := x1) (vs := b.vals) (by simp)) PB.out rfl rfl rfl ?_)
        | (go_at_call 20; (with_reducible refine (refCell_b (a.cell jj) _ HB1.out _ hfa).mono ?_); rintro e w4 ⟨rfl, hb4⟩; have S4 := Lib.hid (S3.out.keep hb4); have O4 := Lib.hid (own_keep O3.out hb4); have Z4 : Hid (x1 + 1 ≤ w4.heap.size) := Lib.hid (Nat.le_trans Z3.out hb4.size); clear hb4 S3)
        | (go_at_call 20; (with_reducible refine (refCell_b (b.cell jj) _ HB2.out _ hfb).mono ?_); rintro e w5 ⟨rfl, hb5⟩; have S5 := Lib.hid (S4.out.keep hb5); have O5 := Lib.hid (own_keep O4.out hb5); have Z5 : Hid (x1 + 1 ≤ w5.heap.size) := Lib.hid (Nat.le_trans Z4.out hb5.size); clear hb5 S4))
        go_ret2
        exact refDiff_22 H1.out HID.out (.inl (vcB_no hjn HB1.out)) S4.out.2
      cases hb2 : cellB (b.cell jj)
      · have HB1 := Lib.hid hb1
        have HB2 := Lib.hid hb2
        clear hb1 hb2
        go_wp2_with (first
        | (refine wp_loadCellAt (a.cell jj) (2 + jj * 2) (S3.out.row (b := w.heap.size) (vs := a.vals) (by simp)) PA.out rfl rfl rfl ?_)
        | (refine wp_loadCellAt (b.cell jj) (2 + jj * 2) (S4.out.row (b := x1) (vs := b.vals) (by simp)) PB.out rfl rfl rfl ?_)
        | (go_at_call 20; (with_reducible refine (refCell_b (a.cell jj) _ HB1.out _ hfa).mono ?_); rintro e w4 ⟨rfl, hb4⟩; have S4 := Lib.hid (S3.out.keep hb4); have O4 := Lib.hid (own_keep O3.out hb4); have Z4 : Hid (x1 + 1 ≤ w4.heap.size) := Lib.hid (Nat.le_trans Z3.out hb4.size); clear hb4 S3)
        | (go_at_call 20; (with_reducible refine (refCell_b (b.cell jj) _ HB2.out _ hfb).mono ?_); rintro e w5 ⟨rfl, hb5⟩; have S5 := Lib.hid (S4.out.keep hb5); have O5 := Lib.hid (own_keep O4.out hb5); have Z5 : Hid (x1 + 1 ≤ w5.heap.size) := Lib.hid (Nat.le_trans Z4.out hb5.size); clear hb5 S4))
        go_ret2
        exact refDiff_22 H1.out HID.out (.inr (vcB_no hjn HB2.out)) S5.out.2
      have HB1 := Lib.hid hb1
      have HB2 := Lib.hid hb2
      have HV2 : Hid (∀ i, i < jj + 1 → cellB (a.cell i) = true ∧ cellB (b.cell i) = true) := Lib.hid fun i hi => by
        by_cases e : i = jj
        · subst e; exact ⟨hb1, hb2⟩
        · exact HV.out i (by omega)
      clear hb1 hb2
      go_wp2_with (first
        | (refine wp_loadCellAt (a.cell jj) (2 + jj * 2) (S3.out.row (b := w.heap.size) (vs := a.vals) (by simp)) PA.out rfl rfl rfl ?_)
        | (refine wp_loadCellAt (b.cell jj) (2 + jj * 2) (S4.out.row (b := x1) (vs := b.vals) (by simp)) PB.out rfl rfl rfl ?_)
        | (go_at_call 20; (with_reducible refine (refCell_b (a.cell jj) _ HB1.out _ hfa).mono ?_); rintro e w4 ⟨rfl, hb4⟩; have S4 := Lib.hid (S3.out.keep hb4); have O4 := Lib.hid (own_keep O3.out hb4); have Z4 : Hid (x1 + 1 ≤ w4.heap.size) := Lib.hid (Nat.le_trans Z3.out hb4.size); clear hb4 S3)
        | (go_at_call 20; (with_reducible refine (refCell_b (b.cell jj) _ HB2.out _ hfb).mono ?_); rintro e w5 ⟨rfl, hb5⟩; have S5 := Lib.hid (S4.out.keep hb5); have O5 := Lib.hid (own_keep O4.out hb5); have Z5 : Hid (x1 + 1 ≤ w5.heap.size) := Lib.hid (Nat.le_trans Z4.out hb5.size); clear hb5 S4))
      have hne := cell_neq (a.cell jj) (b.cell jj)
      cases hs : sameC (a.cell jj) (b.cell jj)
      · rw [hs] at hne
        have HS := Lib.hid hs
        clear hs
        refine wp_region_held_drew (S := St [(x1, b.vals), (w.heap.size, a.vals)] w) (by kernel_rfl) S5.out.drew (fun hHeld => ?_)
        refine wpAnyH_take (i := 0) (v := ?_) rfl (by kernel_rfl) (by kernel_rfl) (by kernel_rfl) (fun _ _ _ h => h) (Or.inl ⟨by rfl, ?_⟩) (by assumption) ?_
        rotate_left
        · (intro W _; go_simp; try with_reducible rfl)
        try simp only [Act.put, List.getElem_toArray, List.getElem_cons_zero, List.setIfInBounds_toArray, List.set_cons_zero, List.set_cons_succ]
        refine wpAnyH_take (i := 1) (v := ?_) rfl (by kernel_rfl) (by kernel_rfl) (by kernel_rfl) (fun _ _ _ h => h) (Or.inl ⟨by rfl, ?_⟩) (by assumption) ?_
        rotate_left
        · (intro W _; go_simp; try with_reducible rfl)
        try simp only [Act.put, List.getElem_toArray, List.getElem_cons_zero, List.getElem_cons_succ, List.setIfInBounds_toArray, List.set_cons_zero, List.set_cons_succ]
        refine wpAnyH_take (i := 2) (v := ?_) rfl (by kernel_rfl) (by kernel_rfl) (by kernel_rfl) (fun _ _ _ h => h) (Or.inl ⟨by rfl, ?_⟩) (by assumption) ?_
        rotate_left
        · (intro W _; go_simp; try with_reducible rfl)
        try simp only [Act.put, List.getElem_toArray, List.getElem_cons_zero, List.getElem_cons_succ, List.setIfInBounds_toArray, List.set_cons_zero, List.set_cons_succ]
        refine wpAnyH_take (i := 3) (v := (.agg #[.bool (a.cell jj).set, .string (a.cell jj).data])) rfl (by kernel_rfl) (by kernel_rfl) (by kernel_rfl) (fun _ _ _ h => h) (yieldsIf_load_mid (by rfl) 24 _ rfl w.heap.size (2 + jj * 2) rfl (a.cell jj).vals _ (fun W hSw => RowAt.range (hSw.row (b := w.heap.size) (vs := a.vals) (by simp)) (2 + jj * 2) (fun j v hv => PA.out j v hv)) Try.underlying24 rfl info_cell) (by assumption) ?_
        try simp only [Act.put, List.getElem_toArray, List.getElem_cons_zero, List.getElem_cons_succ, List.setIfInBounds_toArray, List.set_cons_zero, List.set_cons_succ]
        refine wpAnyH_take (i := 4) (v := ?_) rfl (by kernel_rfl) (by kernel_rfl) (by kernel_rfl) (fun _ _ _ h => h) (Or.inl ⟨by rfl, ?_⟩) (by assumption) ?_
        rotate_left
        · (intro W _; go_simp; try with_reducible rfl)
        try simp only [Act.put, List.getElem_toArray, List.getElem_cons_zero, List.getElem_cons_succ, List.setIfInBounds_toArray, List.set_cons_zero, List.set_cons_succ]
        refine wpAnyH_take (i := 5) (v := ?_) rfl (by kernel_rfl) (by kernel_rfl) (by kernel_rfl) (fun _ _ _ h => h) (Or.inl ⟨by rfl, ?_⟩) (by assumption) ?_
        rotate_left
        · (intro W _; go_simp; try with_reducible rfl)
        try simp only [Act.put, List.getElem_toArray, List.getElem_cons_zero, List.getElem_cons_succ, List.setIfInBounds_toArray, List.set_cons_zero, List.set_cons_succ]
        refine wpAnyH_take (i := 6) (v := ?_) rfl (by kernel_rfl) (by kernel_rfl) (by kernel_rfl) (fun _ _ _ h => h) (Or.inl ⟨by rfl, ?_⟩) (by assumption) ?_
        rotate_left
        · (intro W _; go_simp; try with_reducible rfl)
        try simp only [Act.put, List.getElem_toArray, List.getElem_cons_zero, List.getElem_cons_succ, List.setIfInBounds_toArray, List.set_cons_zero, List.set_cons_succ]
        refine wpAnyH_take (i := 7) (v := (.agg #[.bool (b.cell jj).set, .string (b.cell jj).data])) rfl (by kernel_rfl) (by kernel_rfl) (by kernel_rfl) (fun _ _ _ h => h) (yieldsIf_load_mid (by rfl) 24 _ rfl x1 (2 + jj * 2) rfl (b.cell jj).vals _ (fun W hSw => RowAt.range (hSw.row (b := x1) (vs := b.vals) (by simp)) (2 + jj * 2) (fun j v hv => PB.out j v hv)) Try.underlying24 rfl info_cell) (by assumption) ?_
        try simp only [Act.put, List.getElem_toArray, List.getElem_cons_zero, List.getElem_cons_succ, List.setIfInBounds_toArray, List.set_cons_zero, List.set_cons_succ]
        refine wpAnyH_take (i := 8) (v := ?_) rfl (by kernel_rfl) (by kernel_rfl) (by kernel_rfl) (fun _ _ _ h => h) (Or.inl ⟨by rfl, ?_⟩) (by assumption) ?_
        rotate_left
        · (intro W _; go_simp; try with_reducible rfl)
        try simp only [Act.put, List.getElem_toArray, List.getElem_cons_zero, List.getElem_cons_succ, List.setIfInBounds_toArray, List.set_cons_zero, List.set_cons_succ]
        refine wpAnyH_done (by kernel_rfl) ?_ _
        have S11 := Lib.hid hHeld
        have O11 := Lib.hid (own_drew (own_drew O5.out))
        have Z11 := Z5
        go_wp2_with fail
        refine wp_region_held_drew (S := St [(x1, b.vals), (w.heap.size, a.vals)] w) (by kernel_rfl) S11.out.drew (fun hHeld => ?_)
        refine wpAnyH_take (i := 0) (v := ?_) rfl (by kernel_rfl) (by kernel_rfl) (by kernel_rfl) (fun _ _ _ h => h) (Or.inl ⟨by rfl, ?_⟩) (by assumption) ?_
        rotate_left
        · (intro W _; go_simp; try with_reducible rfl)
        try simp only [Act.put, List.getElem_toArray, List.getElem_cons_zero, List.setIfInBounds_toArray, List.set_cons_zero, List.set_cons_succ]
        refine wpAnyH_take (i := 1) (v := ?_) rfl (by kernel_rfl) (by kernel_rfl) (by kernel_rfl) (fun _ _ _ h => h) (Or.inl ⟨by rfl, ?_⟩) (by assumption) ?_
        rotate_left
        · (intro W _; go_simp; try with_reducible rfl)
        try simp only [Act.put, List.getElem_toArray, List.getElem_cons_zero, List.getElem_cons_succ, List.setIfInBounds_toArray, List.set_cons_zero, List.set_cons_succ]
        refine wpAnyH_take (i := 2) (v := (.int .i64 a.id)) rfl (by kernel_rfl) (by kernel_rfl) (by kernel_rfl) (fun _ _ _ h => h) (yieldsIf_id a (by rfl) rfl rfl (fun W hSw => hSw.row (b := w.heap.size) (vs := a.vals) (by simp))) (by assumption) ?_
        try simp only [Act.put, List.getElem_toArray, List.getElem_cons_zero, List.getElem_cons_succ, List.setIfInBounds_toArray, List.set_cons_zero, List.set_cons_succ]
        refine wpAnyH_take (i := 3) (v := ?_) rfl (by kernel_rfl) (by kernel_rfl) (by kernel_rfl) (fun _ _ _ h => h) (Or.inl ⟨by rfl, ?_⟩) (by assumption) ?_
        rotate_left
        · (intro W _; go_simp; try with_reducible rfl)
        try simp only [Act.put, List.getElem_toArray, List.getElem_cons_zero, List.getElem_cons_succ, List.setIfInBounds_toArray, List.set_cons_zero, List.set_cons_succ]
        refine wpAnyH_take (i := 4) (v := ?_) rfl (by kernel_rfl) (by kernel_rfl) (by kernel_rfl) (fun _ _ _ h => h) (Or.inl ⟨by rfl, ?_⟩) (by assumption) ?_
        rotate_left
        · (intro W _; go_simp; try with_reducible rfl)
        try simp only [Act.put, List.getElem_toArray, List.getElem_cons_zero, List.getElem_cons_succ, List.setIfInBounds_toArray, List.set_cons_zero, List.set_cons_succ]
        refine wpAnyH_take (i := 5) (v := ?_) rfl (by kernel_rfl) (by kernel_rfl) (by kernel_rfl) (fun _ _ _ h => h) (Or.inl ⟨by rfl, ?_⟩) (by assumption) ?_
        rotate_left
        · (intro W _; go_simp; try with_reducible rfl)
        try simp only [Act.put, List.getElem_toArray, List.getElem_cons_zero, List.getElem_cons_succ, List.setIfInBounds_toArray, List.set_cons_zero, List.set_cons_succ]
        refine wpAnyH_take (i := 6) (v := ?_) rfl (by kernel_rfl) (by kernel_rfl) (by kernel_rfl) (fun _ _ _ h => h) (Or.inl ⟨by rfl, ?_⟩) (by assumption) ?_
        rotate_left
        · (intro W _; go_simp; try with_reducible rfl)
        try simp only [Act.put, List.getElem_toArray, List.getElem_cons_zero, List.getElem_cons_succ, List.setIfInBounds_toArray, List.set_cons_zero, List.set_cons_succ]
        refine wpAnyH_take (i := 7) (v := (.agg #[.bool (a.cell jj).set, .string (a.cell jj).data])) rfl (by kernel_rfl) (by kernel_rfl) (by kernel_rfl) (fun _ _ _ h => h) (yieldsIf_load_mid (by rfl) 24 _ rfl w.heap.size (2 + jj * 2) rfl (a.cell jj).vals _ (fun W hSw => RowAt.range (hSw.row (b := w.heap.size) (vs := a.vals) (by simp)) (2 + jj * 2) (fun j v hv => PA.out j v hv)) Try.underlying24 rfl info_cell) (by assumption) ?_
        try simp only [Act.put, List.getElem_toArray, List.getElem_cons_zero, List.getElem_cons_succ, List.setIfInBounds_toArray, List.set_cons_zero, List.set_cons_succ]
        refine wpAnyH_take (i := 8) (v := ?_) rfl (by kernel_rfl) (by kernel_rfl) (by kernel_rfl) (fun _ _ _ h => h) (Or.inl ⟨by rfl, ?_⟩) (by assumption) ?_
        rotate_left
        · (intro W _; go_simp; try with_reducible rfl)
        try simp only [Act.put, List.getElem_toArray, List.getElem_cons_zero, List.getElem_cons_succ, List.setIfInBounds_toArray, List.set_cons_zero, List.set_cons_succ]
        refine wpAnyH_take (i := 9) (v := ?_) rfl (by kernel_rfl) (by kernel_rfl) (by kernel_rfl) (fun _ _ _ h => h) (Or.inl ⟨by rfl, ?_⟩) (by assumption) ?_
        rotate_left
        · (intro W _; go_simp; try with_reducible rfl)
        try simp only [Act.put, List.getElem_toArray, List.getElem_cons_zero, List.getElem_cons_succ, List.setIfInBounds_toArray, List.set_cons_zero, List.set_cons_succ]
        refine wpAnyH_take (i := 10) (v := ?_) rfl (by kernel_rfl) (by kernel_rfl) (by kernel_rfl) (fun _ _ _ h => h) (Or.inl ⟨by rfl, ?_⟩) (by assumption) ?_
        rotate_left
        · (intro W _; go_simp; try with_reducible rfl)
        try simp only [Act.put, List.getElem_toArray, List.getElem_cons_zero, List.getElem_cons_succ, List.setIfInBounds_toArray, List.set_cons_zero, List.set_cons_succ]
        refine wpAnyH_take (i := 11) (v := (.agg #[.bool (b.cell jj).set, .string (b.cell jj).data])) rfl (by kernel_rfl) (by kernel_rfl) (by kernel_rfl) (fun _ _ _ h => h) (yieldsIf_load_mid (by rfl) 24 _ rfl x1 (2 + jj * 2) rfl (b.cell jj).vals _ (fun W hSw => RowAt.range (hSw.row (b := x1) (vs := b.vals) (by simp)) (2 + jj * 2) (fun j v hv => PB.out j v hv)) Try.underlying24 rfl info_cell) (by assumption) ?_
        try simp only [Act.put, List.getElem_toArray, List.getElem_cons_zero, List.getElem_cons_succ, List.setIfInBounds_toArray, List.set_cons_zero, List.set_cons_succ]
        refine wpAnyH_take (i := 12) (v := ?_) rfl (by kernel_rfl) (by kernel_rfl) (by kernel_rfl) (fun _ _ _ h => h) (Or.inl ⟨by rfl, ?_⟩) (by assumption) ?_
        rotate_left
        · (intro W _; go_simp; try with_reducible rfl)
        try simp only [Act.put, List.getElem_toArray, List.getElem_cons_zero, List.getElem_cons_succ, List.setIfInBounds_toArray, List.set_cons_zero, List.set_cons_succ]
        refine wpAnyH_ready (rs := [13]) (by kernel_rfl) (by simp) (AllReadyH.cons rfl (fun K hK => ?_) AllReadyH.nil)
        · simp only [List.getElem_toArray, List.getElem_cons_zero, List.getElem_cons_succ]
          rw [if_pos (by rfl)]
          with_reducible refine op_one ⟨a.id, (jj : Int), a.cell jj, b.cell jj⟩ (by rfl) ?_ (fun w12a hT hbT => ?_)
          · rfl
          have O12_3 := Lib.hid (own_keep O11.out hbT)
          have HT := Lib.hid (hT)
          have Z12 : Hid (x1 + 1 ≤ w12a.heap.size) := Lib.hid (Nat.le_trans Z11.out hbT.size)
          refine hK.out _ _ (hHeld.keep hbT) (fun hH12_2 => ?_)
          clear hK K
          simp only [Act.put, List.setIfInBounds_toArray, List.set_cons_zero, List.set_cons_succ]
          refine wpAnyH_ready (rs := [14]) (by kernel_rfl) (by simp) (AllReadyH.cons rfl (fun K hK => ?_) AllReadyH.nil)
          · simp only [List.getElem_toArray, List.getElem_cons_zero, List.getElem_cons_succ]
            rw [if_pos (by rfl)]
            with_reducible refine op_append (x1 + 1) _ _ _ ⟨a.id, (jj : Int), a.cell jj, b.cell jj⟩ _ (by rfl) ?_ ?_ O12_3.out HT.out (by have := HLEN.out; omega) Z12.out (fun g' cap' w12b hO2 hg2 hgl => ?_)
            · rfl
            · rfl
            have O12_6 := Lib.hid (hO2)
            have Z13 : Hid (x1 + 1 ≤ w12b.heap.size) := Lib.hid (Nat.le_trans Z12.out hg2.size)
            refine hK.out _ _ (hH12_2.grownRow hg2 (fun x hx e => by have h1 := (O12_3.out.lt _ e).1; simp only [List.mem_cons, List.not_mem_nil, or_false] at hx; rcases hx with rfl | rfl <;> simp only at h1 <;> omega) (fun k e => by have h1 := (O12_3.out.lt k e).1; omega)) (fun hH12_5 => ?_)
            clear hK K
            simp only [Act.put, List.setIfInBounds_toArray, List.set_cons_zero, List.set_cons_succ]
            refine wpAnyH_take (i := 15) (v := ?_) rfl (by kernel_rfl) (by kernel_rfl) (by kernel_rfl) (fun _ _ _ h => h) (Or.inl ⟨by rfl, ?_⟩) (by assumption) ?_
            rotate_left
            · (intro W _; go_simp; try with_reducible rfl)
            try simp only [Act.put, List.getElem_toArray, List.getElem_cons_zero, List.getElem_cons_succ, List.setIfInBounds_toArray, List.set_cons_zero, List.set_cons_succ]
            refine wpAnyH_done (by kernel_rfl) ?_ _
            go_wp2_with fail
            go_roundw
            case rel => exact ⟨jj + 1, by omega, by go_num, HV2.out, Z13.out, hH12_5, by rw [diffN_other HS.out, List.length_append, flat_snoc]; exact O12_6.out⟩
            case measure => simp [intOf]; omega
      · rw [hs] at hne
        have HS := Lib.hid hs
        clear hs
        refine wp_region_held_drew (S := St [(x1, b.vals), (w.heap.size, a.vals)] w) (by kernel_rfl) S5.out.drew (fun hHeld => ?_)
        refine wpAnyH_take (i := 0) (v := ?_) rfl (by kernel_rfl) (by kernel_rfl) (by kernel_rfl) (fun _ _ _ h => h) (Or.inl ⟨by rfl, ?_⟩) (by assumption) ?_
        rotate_left
        · (intro W _; go_simp; try with_reducible rfl)
        try simp only [Act.put, List.getElem_toArray, List.getElem_cons_zero, List.setIfInBounds_toArray, List.set_cons_zero, List.set_cons_succ]
        refine wpAnyH_take (i := 1) (v := ?_) rfl (by kernel_rfl) (by kernel_rfl) (by kernel_rfl) (fun _ _ _ h => h) (Or.inl ⟨by rfl, ?_⟩) (by assumption) ?_
        rotate_left
        · (intro W _; go_simp; try with_reducible rfl)
        try simp only [Act.put, List.getElem_toArray, List.getElem_cons_zero, List.getElem_cons_succ, List.setIfInBounds_toArray, List.set_cons_zero, List.set_cons_succ]
        refine wpAnyH_take (i := 2) (v := ?_) rfl (by kernel_rfl) (by kernel_rfl) (by kernel_rfl) (fun _ _ _ h => h) (Or.inl ⟨by rfl, ?_⟩) (by assumption) ?_
        rotate_left
        · (intro W _; go_simp; try with_reducible rfl)
        try simp only [Act.put, List.getElem_toArray, List.getElem_cons_zero, List.getElem_cons_succ, List.setIfInBounds_toArray, List.set_cons_zero, List.set_cons_succ]
        refine wpAnyH_take (i := 3) (v := (.agg #[.bool (a.cell jj).set, .string (a.cell jj).data])) rfl (by kernel_rfl) (by kernel_rfl) (by kernel_rfl) (fun _ _ _ h => h) (yieldsIf_load_mid (by rfl) 24 _ rfl w.heap.size (2 + jj * 2) rfl (a.cell jj).vals _ (fun W hSw => RowAt.range (hSw.row (b := w.heap.size) (vs := a.vals) (by simp)) (2 + jj * 2) (fun j v hv => PA.out j v hv)) Try.underlying24 rfl info_cell) (by assumption) ?_
        try simp only [Act.put, List.getElem_toArray, List.getElem_cons_zero, List.getElem_cons_succ, List.setIfInBounds_toArray, List.set_cons_zero, List.set_cons_succ]
        refine wpAnyH_take (i := 4) (v := ?_) rfl (by kernel_rfl) (by kernel_rfl) (by kernel_rfl) (fun _ _ _ h => h) (Or.inl ⟨by rfl, ?_⟩) (by assumption) ?_
        rotate_left
        · (intro W _; go_simp; try with_reducible rfl)
        try simp only [Act.put, List.getElem_toArray, List.getElem_cons_zero, List.getElem_cons_succ, List.setIfInBounds_toArray, List.set_cons_zero, List.set_cons_succ]
        refine wpAnyH_take (i := 5) (v := ?_) rfl (by kernel_rfl) (by kernel_rfl) (by kernel_rfl) (fun _ _ _ h => h) (Or.inl ⟨by rfl, ?_⟩) (by assumption) ?_
        rotate_left
        · (intro W _; go_simp; try with_reducible rfl)
        try simp only [Act.put, List.getElem_toArray, List.getElem_cons_zero, List.getElem_cons_succ, List.setIfInBounds_toArray, List.set_cons_zero, List.set_cons_succ]
        refine wpAnyH_take (i := 6) (v := ?_) rfl (by kernel_rfl) (by kernel_rfl) (by kernel_rfl) (fun _ _ _ h => h) (Or.inl ⟨by rfl, ?_⟩) (by assumption) ?_
        rotate_left
        · (intro W _; go_simp; try with_reducible rfl)
        try simp only [Act.put, List.getElem_toArray, List.getElem_cons_zero, List.getElem_cons_succ, List.setIfInBounds_toArray, List.set_cons_zero, List.set_cons_succ]
        refine wpAnyH_take (i := 7) (v := (.agg #[.bool (b.cell jj).set, .string (b.cell jj).data])) rfl (by kernel_rfl) (by kernel_rfl) (by kernel_rfl) (fun _ _ _ h => h) (yieldsIf_load_mid (by rfl) 24 _ rfl x1 (2 + jj * 2) rfl (b.cell jj).vals _ (fun W hSw => RowAt.range (hSw.row (b := x1) (vs := b.vals) (by simp)) (2 + jj * 2) (fun j v hv => PB.out j v hv)) Try.underlying24 rfl info_cell) (by assumption) ?_
        try simp only [Act.put, List.getElem_toArray, List.getElem_cons_zero, List.getElem_cons_succ, List.setIfInBounds_toArray, List.set_cons_zero, List.set_cons_succ]
        refine wpAnyH_take (i := 8) (v := ?_) rfl (by kernel_rfl) (by kernel_rfl) (by kernel_rfl) (fun _ _ _ h => h) (Or.inl ⟨by rfl, ?_⟩) (by assumption) ?_
        rotate_left
        · (intro W _; go_simp; try with_reducible rfl)
        try simp only [Act.put, List.getElem_toArray, List.getElem_cons_zero, List.getElem_cons_succ, List.setIfInBounds_toArray, List.set_cons_zero, List.set_cons_succ]
        refine wpAnyH_done (by kernel_rfl) ?_ _
        have S11 := Lib.hid hHeld
        go_wp2_with fail
        go_roundw
        case rel => exact ⟨jj + 1, by omega, by go_num, HV2.out, Z5.out, S11.out, by rw [diffN_same HS.out]; exact own_drew O5.out⟩
        case measure => simp [intOf]; omega
    · have hj16 : jj = 16 := by omega
      subst hj16
      go_wp2_with fail
      go_ret2
      have hE : diffE a b = 0 := by
        unfold diffE
        rw [H1.out, HID.out, vcB_iff.2 (fun i hi => (HV.out i hi).1), vcB_iff.2 (fun i hi => (HV.out i hi).2)]; rfl
      unfold DiffR diffL
      rw [hE]
      exact ⟨_, rfl, own_base O3.out (by omega), S3.out.2⟩
end Go.Proofs.Ytkcgcddpgfcgiaa.ks
