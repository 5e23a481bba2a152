/- Diff as a whole; Same. -/
import Derived.Test.YtkcgcddpgfcgiaaKq
namespace Go.Proofs.Ytkcgcddpgfcgiaa.kr
open Go.ChangeShapes Go.WideShapes Go.ChangeAt Go.RowKit Go.Proofs.Ytkcgcddpgfcgiaa.cx Go.Proofs.Ytkcgcddpgfcgiaa.ra Go.Proofs.Ytkcgcddpgfcgiaa.rc Go.Proofs.Ytkcgcddpgfcgiaa.da Go.Proofs.Ytkcgcddpgfcgiaa.di Go.Proofs.Ytkcgcddpgfcgiaa.ea Go.Proofs.Ytkcgcddpgfcgiaa.eb Go.Proofs.Ytkcgcddpgfcgiaa.ec Go.Proofs.Ytkcgcddpgfcgiaa.ed Go.Proofs.Ytkcgcddpgfcgiaa.fb Go.Proofs.Ytkcgcddpgfcgiaa.ka Go.Proofs.Ytkcgcddpgfcgiaa.kb Go.Proofs.Ytkcgcddpgfcgiaa.kc Go.Proofs.Ytkcgcddpgfcgiaa.kd Go.Proofs.Ytkcgcddpgfcgiaa.ke Go.Proofs.Ytkcgcddpgfcgiaa.kf Go.Proofs.Ytkcgcddpgfcgiaa.kg Go.Proofs.Ytkcgcddpgfcgiaa.ki Go.Proofs.Ytkcgcddpgfcgiaa.kj Go.Proofs.Ytkcgcddpgfcgiaa.kk Go.Proofs.Ytkcgcddpgfcgiaa.km Go.Proofs.Ytkcgcddpgfcgiaa.kn Go.Proofs.Ytkcgcddpgfcgiaa.kp Go.Proofs.Ytkcgcddpgfcgiaa.kq

def diffL (a b : Pg) : List Chg := if diffE a b = 0 then diffN a b 16 else []
def sameAll (a b : Pg) : Bool := (List.range 16).all fun i => sameC (a.cell i) (b.cell i)
theorem sameAll_iff {a b : Pg} : sameAll a b = true ↔ ∀ i, i < 16 → a.cell i = b.cell i := by
  unfold sameAll
  simp only [List.all_eq_true, List.mem_range, sameC_iff]
theorem cells_eql (a b : Pg) (W : World) : (binOp .eql 25 (.agg a.cellArr) (.agg b.cellArr)).run Try.prog W = .ok (.bool (sameAll a b)) W := by
  rw [run_eql_struct, cells_eqIn 9997]; rfl
theorem diffN_nil {a b : Pg} (h : sameAll a b = true) : ∀ n, n ≤ 16 → diffN a b n = []
  | 0, _ => by simp [diffN]
  | n + 1, hn => by rw [diffN_same (sameC_iff.2 (sameAll_iff.1 h n (by omega))), diffN_nil h n (by omega)]
/-- What both Diffs answer. -/
def DiffR (a b : Pg) (w : World) (e : Ending) (w' : World) : Prop := ∃ v, e = .returned (.tuple #[v, .int .i64 (diffE a b)]) ∧ w'.ownsRow w.heap.size 29 6 v (diffL a b).length (flat (diffL a b)) ∧ Below w.heap.size w w'
set_option maxRecDepth 4000 in
set_option maxHeartbeats 2000000 in
theorem diff_any (a b : Pg) (w : World) (ha : Fits a) (hb : Fits b) : Calls Try.prog 24 #[.agg a.arr, .agg b.arr] w (DiffR a b w) := by
  unfold DiffR diffL
  obtain ⟨n, hn⟩ : ∃ n, diffE a b = n := ⟨_, rfl⟩
  rw [hn]
  have HN := Lib.hid hn
  clear hn
  by_cases h0 : n = 0
  rotate_left
  · have ne : (n != 0) = true := by simpa using h0
    rw [if_neg h0]
    clear h0
    go_enter Try.func24, Try.ntmps24
    go_wp2_with (first
        | (refine wp_boxPageW a rfl rfl rfl ?_; intro w0 hP hb0 _; have S1 := Lib.hid ((st_nil (Below.refl w.heap.size w)).first hb0 hP); clear hP hb0)
        | (refine wp_boxPageW b rfl rfl rfl ?_; intro w1 hP hb0 _; have S2 := Lib.hid (S1.out.first hb0 hP); clear hP hb0 S1)
        | (refine wp_loadPage a (S2.out.row (vs := a.vals) (List.mem_cons_of_mem _ (List.mem_cons_self ..))) rfl rfl rfl ?_)
        | (refine wp_loadPage b (S2.out.row (vs := b.vals) (List.mem_cons_self ..)) rfl rfl rfl ?_)
        | (go_at_call 35; (with_reducible refine (diffError_b a b _ HN.out _ ha hb).mono ?_); rintro e w4 ⟨rfl, hb4⟩; have S4 := Lib.hid (S2.out.keep hb4); clear hb4 S2)
        | (refine wp_loadCells a (S4.out.row (vs := a.vals) (List.mem_cons_of_mem _ (List.mem_cons_self ..))) rfl rfl rfl ?_)
        | (refine wp_loadCells b (S4.out.row (vs := b.vals) (List.mem_cons_self ..)) rfl rfl rfl ?_)
        | (refine wp_loadPage a (S4.out.row (vs := a.vals) (List.mem_cons_of_mem _ (List.mem_cons_self ..))) rfl rfl rfl ?_)
        | (refine wp_loadPage b (S4.out.row (vs := b.vals) (List.mem_cons_self ..)) rfl rfl rfl ?_))
    go_ret2
    exact ⟨_, rfl, World.ownsRow_nil _ _ _ _, S4.out.2⟩
  · subst h0
    rw [if_pos rfl]
    have ce := cells_eql a b
    cases hs : sameAll a b
    · rw [hs] at ce
      clear hs
      go_enter Try.func24, Try.ntmps24
      go_wp2_with (first
        | (refine wp_boxPageW a rfl rfl rfl ?_; intro w0 hP hb0 _; have S1 := Lib.hid ((st_nil (Below.refl w.heap.size w)).first hb0 hP); clear hP hb0)
        | (refine wp_boxPageW b rfl rfl rfl ?_; intro w1 hP hb0 _; have S2 := Lib.hid (S1.out.first hb0 hP); clear hP hb0 S1)
        | (refine wp_loadPage a (S2.out.row (vs := a.vals) (List.mem_cons_of_mem _ (List.mem_cons_self ..))) rfl rfl rfl ?_)
        | (refine wp_loadPage b (S2.out.row (vs := b.vals) (List.mem_cons_self ..)) rfl rfl rfl ?_)
        | (go_at_call 35; (with_reducible refine (diffError_b a b _ HN.out _ ha hb).mono ?_); rintro e w4 ⟨rfl, hb4⟩; have S4 := Lib.hid (S2.out.keep hb4); clear hb4 S2)
        | (refine wp_loadCells a (S4.out.row (vs := a.vals) (List.mem_cons_of_mem _ (List.mem_cons_self ..))) rfl rfl rfl ?_)
        | (refine wp_loadCells b (S4.out.row (vs := b.vals) (List.mem_cons_self ..)) rfl rfl rfl ?_)
        | (refine wp_loadPage a (S4.out.row (vs := a.vals) (List.mem_cons_of_mem _ (List.mem_cons_self ..))) rfl rfl rfl ?_)
        | (refine wp_loadPage b (S4.out.row (vs := b.vals) (List.mem_cons_self ..)) rfl rfl rfl ?_)
        | (go_at_call 36; (with_reducible refine (differences_any a b _).mono ?_); rintro e w5 ⟨v, rfl, hO, hb⟩; have S5 := Lib.hid (S4.out.keep hb); have O5 := Lib.hid (own_base hO S4.out.2.size); clear hb hO))
      go_ret2
      exact ⟨_, rfl, O5.out, S5.out.2⟩
    · rw [hs] at ce
      rw [diffN_nil hs 16 (Nat.le_refl _)]
      clear hs
      go_enter Try.func24, Try.ntmps24
      go_wp2_with (first
        | (refine wp_boxPageW a rfl rfl rfl ?_; intro w0 hP hb0 _; have S1 := Lib.hid ((st_nil (Below.refl w.heap.size w)).first hb0 hP); clear hP hb0)
        | (refine wp_boxPageW b rfl rfl rfl ?_; intro w1 hP hb0 _; have S2 := Lib.hid (S1.out.first hb0 hP); clear hP hb0 S1)
        | (refine wp_loadPage a (S2.out.row (vs := a.vals) (List.mem_cons_of_mem _ (List.mem_cons_self ..))) rfl rfl rfl ?_)
        | (refine wp_loadPage b (S2.out.row (vs := b.vals) (List.mem_cons_self ..)) rfl rfl rfl ?_)
        | (go_at_call 35; (with_reducible refine (diffError_b a b _ HN.out _ ha hb).mono ?_); rintro e w4 ⟨rfl, hb4⟩; have S4 := Lib.hid (S2.out.keep hb4); clear hb4 S2)
        | (refine wp_loadCells a (S4.out.row (vs := a.vals) (List.mem_cons_of_mem _ (List.mem_cons_self ..))) rfl rfl rfl ?_)
        | (refine wp_loadCells b (S4.out.row (vs := b.vals) (List.mem_cons_self ..)) rfl rfl rfl ?_)
        | (refine wp_loadPage a (S4.out.row (vs := a.vals) (List.mem_cons_of_mem _ (List.mem_cons_self ..))) rfl rfl rfl ?_)
        | (refine wp_loadPage b (S4.out.row (vs := b.vals) (List.mem_cons_self ..)) rfl rfl rfl ?_))
      go_ret2
      exact ⟨_, rfl, World.ownsRow_nil _ _ _ _, S4.out.2⟩
/-- What is owned, as a slice. -/
theorem own_open {w : World} {base n : Nat} {v : Value} {xs : List Value} (h : w.ownsRow base 29 6 v n xs) : ∃ so cap, v = .slice so n cap ∧ n ≤ cap ∧ cap ≤ 9223372036854775807 ∧ (0 < n → ∃ (g : Nat) (cl : List Value), so = some ⟨g, 0, none⟩ ∧ base ≤ g ∧ RowAt g cl w ∧ ∀ (i : Nat) (u : Value), xs[i]? = some u → cl[i]? = some u) := by
  rcases h.2 with ⟨rfl, rfl⟩ | ⟨g, cap, cur, rfl, h3, h4, h5, h6, _, h8⟩
  · exact ⟨none, 0, rfl, Nat.le_refl _, by decide, fun h => by omega⟩
  · refine ⟨some ⟨g, 0, none⟩, cap, rfl, h5, by unfold maxLen at h6; omega, fun _ => ⟨g, cur.toList, rfl, h3, row_cells h4, fun i u hi => ?_⟩⟩
    rw [← h8, List.getElem?_take] at hi
    split at hi
    · exact hi
    · cases hi
set_option maxRecDepth 4000 in
set_option maxHeartbeats 4000000 in
theorem same_any (cs : List Chg) (v1 v2 : Value) (b1 b2 : Nat) (w : World) (h1 : w.ownsRow b1 29 6 v1 cs.length (flat cs)) (h2 : w.ownsRow b2 29 6 v2 cs.length (flat cs)) :
    Calls Try.prog 26 #[v1, v2] w fun e w' => e = .returned (.bool true) ∧ Below w.heap.size w w' := by
  obtain ⟨so1, cp1, rfl, hl1, hm1, r1⟩ := own_open h1
  obtain ⟨so2, cp2, rfl, _, _, r2⟩ := own_open h2
  have R1 := Lib.hid r1
  have R2 := Lib.hid r2
  clear r1 r2 h1 h2
  obtain ⟨n, hn⟩ : ∃ n, cs.length = n := ⟨_, rfl⟩
  have HN := Lib.hid hn
  have hnb : n ≤ 9223372036854775807 := by omega
  rw [hn] at R1 R2 ⊢
  clear hn
  go_enter Try.func26, Try.ntmps26
  go_wp2_with fail
  go_loopw [5] (fun v wr => ∃ jj : Nat, jj ≤ n ∧ v = .int .i64 jj ∧ Below w.heap.size w wr) (fun v _ => n - (intOf v).toNat)
  case atStart => exact ⟨0, by omega, rfl, Below.refl _ _⟩
  case round =>
    obtain ⟨jj, hj, rfl, h1⟩ := hrel
    by_cases hjn : jj < n
    · obtain ⟨g1, cl1, rfl, _, hr1, ha1⟩ := R1.out (by omega)
      obtain ⟨g2, cl2, rfl, _, hr2, ha2⟩ := R2.out (by omega)
      obtain ⟨c, hc⟩ : ∃ c, cs[jj]? = some c := ⟨_, List.getElem?_eq_getElem (by rw [HN.out]; exact hjn)⟩
      have HL1 : Hid (∀ t z, c.vals[t]? = some z → cl1[jj * 6 + t]? = some z) := Lib.hid fun t z h => ha1 _ _ (flat_at cs jj c t z hc h)
      have HL2 : Hid (∀ t z, c.vals[t]? = some z → cl2[jj * 6 + t]? = some z) := Lib.hid fun t z h => ha2 _ _ (flat_at cs jj c t z hc h)
      have S0 := Lib.hid (((st_nil h1).add (RowAt.keep hr2 h1)).add (RowAt.keep hr1 h1))
      have cnq := chg_neq_self c
      have q0 : (0 : Int) ≤ (jj : Int) := by omega
      have q1 : (jj : Int) < (n : Int) := by omega
      clear hr1 hr2 ha1 ha2 hc h1
      go_wp2_with fail
      refine wp_region_held_drew (S := St [(g1, cl1), (g2, cl2)] w) (by kernel_rfl) S0.out.drew (fun hHeld => ?_)
      refine wpAnyH_take (i := 0) (v := ?_) rfl (by kernel_rfl) (by kernel_rfl) (by kernel_rfl) (fun _ _ _ h => h) (Or.inl ⟨by rfl, ?_⟩) (by assumption) ?_
      rotate_left
      · (intro W _; go_simp; try with_reducible rfl)
      try simp only [Act.put, List.getElem_toArray, List.getElem_cons_zero, List.setIfInBounds_toArray, List.set_cons_zero, List.set_cons_succ]
      refine wpAnyH_take (i := 1) (v := ?_) rfl (by kernel_rfl) (by kernel_rfl) (by kernel_rfl) (fun _ _ _ h => h) (Or.inl ⟨by rfl, ?_⟩) (by assumption) ?_
      rotate_left
      · (intro W _; go_simp; try with_reducible rfl)
      try simp only [Act.put, List.getElem_toArray, List.getElem_cons_zero, List.getElem_cons_succ, List.setIfInBounds_toArray, List.set_cons_zero, List.set_cons_succ]
      refine wpAnyH_take (i := 2) (v := ?_) rfl (by kernel_rfl) (by kernel_rfl) (by kernel_rfl) (fun _ _ _ h => h) (Or.inl ⟨by rfl, ?_⟩) (by assumption) ?_
      rotate_left
      · (intro W _; go_simp; try with_reducible rfl)
      try simp only [Act.put, List.getElem_toArray, List.getElem_cons_zero, List.getElem_cons_succ, List.setIfInBounds_toArray, List.set_cons_zero, List.set_cons_succ]
      refine wpAnyH_take (i := 3) (v := (.agg (Chg.arr c))) rfl (by kernel_rfl) (by kernel_rfl) (by kernel_rfl) (fun _ _ _ h => h) (yieldsIf_load_mid (by rfl) 29 _ rfl g1 (jj * 6) rfl c.vals _ (fun W hSw => RowAt.range (hSw.row (b := g1) (vs := cl1) (by simp)) (jj * 6) (fun j v hv => HL1.out j v hv)) Try.underlying29 rfl info_change) (by assumption) ?_
      try simp only [Act.put, List.getElem_toArray, List.getElem_cons_zero, List.getElem_cons_succ, List.setIfInBounds_toArray, List.set_cons_zero, List.set_cons_succ]
      refine wpAnyH_take (i := 4) (v := ?_) rfl (by kernel_rfl) (by kernel_rfl) (by kernel_rfl) (fun _ _ _ h => h) (Or.inl ⟨by rfl, ?_⟩) (by assumption) ?_
      rotate_left
      · (intro W _; go_simp; try with_reducible rfl)
      try simp only [Act.put, List.getElem_toArray, List.getElem_cons_zero, List.getElem_cons_succ, List.setIfInBounds_toArray, List.set_cons_zero, List.set_cons_succ]
      refine wpAnyH_take (i := 5) (v := ?_) rfl (by kernel_rfl) (by kernel_rfl) (by kernel_rfl) (fun _ _ _ h => h) (Or.inl ⟨by rfl, ?_⟩) (by assumption) ?_
      rotate_left
      · (intro W _; go_simp; try with_reducible rfl)
      try simp only [Act.put, List.getElem_toArray, List.getElem_cons_zero, List.getElem_cons_succ, List.setIfInBounds_toArray, List.set_cons_zero, List.set_cons_succ]
      refine wpAnyH_take (i := 6) (v := ?_) rfl (by kernel_rfl) (by kernel_rfl) (by kernel_rfl) (fun _ _ _ h => h) (Or.inl ⟨by rfl, ?_⟩) (by assumption) ?_
      rotate_left
      · (intro W _; go_simp; try with_reducible rfl)
      try simp only [Act.put, List.getElem_toArray, List.getElem_cons_zero, List.getElem_cons_succ, List.setIfInBounds_toArray, List.set_cons_zero, List.set_cons_succ]
      refine wpAnyH_take (i := 7) (v := (.agg (Chg.arr c))) rfl (by kernel_rfl) (by kernel_rfl) (by kernel_rfl) (fun _ _ _ h => h) (yieldsIf_load_mid (by rfl) 29 _ rfl g2 (jj * 6) rfl c.vals _ (fun W hSw => RowAt.range (hSw.row (b := g2) (vs := cl2) (by simp)) (jj * 6) (fun j v hv => HL2.out j v hv)) Try.underlying29 rfl info_change) (by assumption) ?_
      try simp only [Act.put, List.getElem_toArray, List.getElem_cons_zero, List.getElem_cons_succ, List.setIfInBounds_toArray, List.set_cons_zero, List.set_cons_succ]
      refine wpAnyH_take (i := 8) (v := ?_) rfl (by kernel_rfl) (by kernel_rfl) (by kernel_rfl) (fun _ _ _ h => h) (Or.inl ⟨by rfl, ?_⟩) (by assumption) ?_
      rotate_left
      · (intro W _; go_simp; try with_reducible rfl)
      try simp only [Act.put, List.getElem_toArray, List.getElem_cons_zero, List.getElem_cons_succ, List.setIfInBounds_toArray, List.set_cons_zero, List.set_cons_succ]
      refine wpAnyH_done (by kernel_rfl) ?_ _
      go_wp2_with fail
      go_roundw
      case rel => exact ⟨jj + 1, by omega, by go_num, hHeld.2⟩
      case measure => simp [intOf]; omega
    · have hj2 : jj = n := by omega
      subst hj2
      go_wp2_with fail
      go_ret
      exact ⟨rfl, h1⟩
end Go.Proofs.Ytkcgcddpgfcgiaa.kr
