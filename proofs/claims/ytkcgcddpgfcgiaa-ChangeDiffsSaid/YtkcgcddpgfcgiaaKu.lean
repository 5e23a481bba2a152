/- ChangeDiffs: the walk. -/
import Derived.Test.YtkcgcddpgfcgiaaKt
import Derived.Test.YtkcgcddpgfcgiaaKv2
namespace Go.Proofs.Ytkcgcddpgfcgiaa.ku
open Go.ChangeShapes Go.WideShapes Go.ChangeAt Go.RowKit Go.Proofs.Ytkcgcddpgfcgiaa.cx Go.Proofs.Ytkcgcddpgfcgiaa.ra Go.Proofs.Ytkcgcddpgfcgiaa.rc Go.Proofs.Ytkcgcddpgfcgiaa.da Go.Proofs.Ytkcgcddpgfcgiaa.di Go.Proofs.Ytkcgcddpgfcgiaa.ea Go.Proofs.Ytkcgcddpgfcgiaa.eb Go.Proofs.Ytkcgcddpgfcgiaa.ec Go.Proofs.Ytkcgcddpgfcgiaa.ed Go.Proofs.Ytkcgcddpgfcgiaa.fb Go.Proofs.Ytkcgcddpgfcgiaa.ka Go.Proofs.Ytkcgcddpgfcgiaa.kb Go.Proofs.Ytkcgcddpgfcgiaa.kc Go.Proofs.Ytkcgcddpgfcgiaa.kd Go.Proofs.Ytkcgcddpgfcgiaa.ke Go.Proofs.Ytkcgcddpgfcgiaa.kf Go.Proofs.Ytkcgcddpgfcgiaa.kg Go.Proofs.Ytkcgcddpgfcgiaa.ki Go.Proofs.Ytkcgcddpgfcgiaa.kj Go.Proofs.Ytkcgcddpgfcgiaa.kk Go.Proofs.Ytkcgcddpgfcgiaa.km Go.Proofs.Ytkcgcddpgfcgiaa.kn Go.Proofs.Ytkcgcddpgfcgiaa.kp Go.Proofs.Ytkcgcddpgfcgiaa.kq Go.Proofs.Ytkcgcddpgfcgiaa.kr Go.Proofs.Ytkcgcddpgfcgiaa.ks Go.Proofs.Ytkcgcddpgfcgiaa.kt Go.Proofs.Ytkcgcddpgfcgiaa.kv2

set_option maxRecDepth 4000 in
set_option maxHeartbeats 8000000 in
theorem diffs_walk (so : Option Addr) (len cap : Nat) (a b : Pg) (w : World) (ha : Fits a) (hb : Fits b) (hin : BytesIn so len w) (hl : len ≤ 9223372036854775807) (hc : len ≤ cap) :
    Calls Try.prog 4 #[.slice so len cap, .agg a.arr, .agg b.arr] w fun e w' => e = .returned (.bool true) ∧ Below w.heap.size w w' := by
  have HIN := Lib.hid hin
  have HU : Hid True := Lib.hid trivial
  have FA := Lib.hid ha
  have FB := Lib.hid hb
  clear hin ha hb
  go_enter Try.func4, Try.ntmps4
  go_wp2_with (first
    | (clear HU; refine wp_boxPageW a rfl rfl rfl ?_; intro w0 hP hb0 _; have S0 := Lib.hid ((st_nil (Below.refl w.heap.size w)).first hb0 hP); clear hP hb0)
    | (have _t := S0.out; refine wp_boxPageW b rfl rfl rfl ?_; intro w1 hP hb0 _; have S1 := Lib.hid (S0.out.first hb0 hP); clear hP hb0 _t S0))
  go_at_call 7
  refine (awake_any _).mono ?_
  rintro e w3 ⟨rfl, hb3⟩
  have S3 := Lib.hid (S1.out.keep hb3)
  clear hb3 S1
  go_wp2_with fail
  go_at_call 8
  refine (new_is so len cap 200 _ (by decide) _ (bytesIn_below HIN.out S3.out.2) hl hc (by decide)).mono ?_
  rintro e w4 ⟨rfl, hC4, hb4, _⟩
  have C4 := Lib.hid hC4
  have HLE : Hid (w.heap.size ≤ w3.heap.size) := Lib.hid S3.out.2.size
  have HNE := Lib.hid S3.out.ne
  have S4 := Lib.hid (S3.out.keep hb4)
  clear hC4 hb4 S3 HIN
  generalize w3.heap.size = c at *
  generalize w0.heap.size = x5 at *
  generalize hx4 : w.heap.size = x4 at *
  have HX4 := Lib.hid hx4
  have HLE2 : Hid (w.heap.size ≤ c) := Lib.hid (by rw [HX4.out]; exact HLE.out)
  clear HLE hx4
  go_wp2_with fail
  go_at_call 9
  refine (page_any c 2 _ C4.out).mono ?_
  rintro e w5 ⟨p, rfl, hp1, hp2, hp3, hp4, hC5, hg5⟩
  have C5 := Lib.hid hC5
  have S5 := Lib.hid (S4.out.grown hg5 HLE2.out HNE.out)
  have HPI : Hid (p.id = 2 ∧ cellsB p = true) := Lib.hid ⟨hp1, hp4⟩
  clear hp1 hp2 hp3 hp4 hC5 hg5 C4 S4
  go_wp2_with fail
  go_at_call 9
  refine (page_any c 2 _ C5.out).mono ?_
  rintro e w6 ⟨q, rfl, hq1, hq2, hq3, hq4, hC6, hg6⟩
  have C6 := Lib.hid hC6
  have lt6 := cod_lt hC6
  have S6 := Lib.hid (S5.out.grown hg6 HLE2.out HNE.out)
  have HQI : Hid (q.id = 2 ∧ cellsB q = true) := Lib.hid ⟨hq1, hq4⟩
  have NE6 := Lib.hid S6.out.ne
  have LE6 := Lib.hid S6.out.2.size
  clear hq1 hq2 hq3 hq4 hC6 hg6 C5 S5
  go_wp2_with (first
    | (have _t := S6.out; refine wp_newPageW rfl rfl ?_; intro w7 hP hb0 hlt; have S7 := Lib.hid (S6.out.first hb0 hP); have C7 := Lib.hid (cod_keep C6.out hb0); have NE7 := Lib.hid S7.out.ne; have LT7 := Lib.hid hlt; clear hP hb0 hlt _t S6 C6)
    | (have _t := S7.out; refine wp_newPageW rfl rfl ?_; intro w8 hP hb0 _; have S8 := Lib.hid (S7.out.first hb0 hP); have C8 := Lib.hid (cod_keep C7.out hb0); clear hP hb0 _t S7 C7)
    | (refine wp_storePageW p (S8.out.row (b := w6.heap.size) (vs := (newPg 0).vals) (by simp)) (vals_length _) rfl rfl rfl rfl ?_; intro w9 hP hS; have S9 : Hid (St [(w6.heap.size, p.vals), (w7.heap.size, (newPg 0).vals), (x5, b.vals), (x4, a.vals)] w w9) := Lib.hid (((S8.out.sub (l' := [(w7.heap.size, (newPg 0).vals), (x5, b.vals), (x4, a.vals)]) (by simp)).stored (List.forall_mem_cons.2 ⟨Nat.ne_of_lt LT7.out, NE6.out⟩) LE6.out hS).add hP); have C9 := Lib.hid (hS.cod C8.out lt6); clear hP hS S8 C8)
    | (refine wp_storePageW q (S9.out.row (b := w7.heap.size) (vs := (newPg 0).vals) (by simp)) (vals_length _) rfl rfl rfl rfl ?_; intro w10 hP hS; have S10 : Hid (St [(w7.heap.size, q.vals), (w6.heap.size, p.vals), (x5, b.vals), (x4, a.vals)] w w10) := Lib.hid (((S9.out.sub (l' := [(w6.heap.size, p.vals), (x5, b.vals), (x4, a.vals)]) (by simp)).stored (List.forall_mem_cons.2 ⟨(Nat.ne_of_lt LT7.out).symm, fun x hx => NE7.out x (List.mem_cons_of_mem _ hx)⟩) (Nat.le_trans LE6.out (Nat.le_of_lt LT7.out)) hS).add hP); have C10 := Lib.hid (hS.cod C9.out (Nat.lt_trans lt6 LT7.out)); clear hP hS S9 C9))
  have lt7 := Nat.lt_trans lt6 LT7.out
  have HNX : Hid (∀ x ∈ [(w7.heap.size, q.vals), (w6.heap.size, p.vals), (x5, b.vals), (x4, a.vals)], c ≠ x.1) := Lib.hid (List.forall_mem_cons.2 ⟨Nat.ne_of_lt lt7, List.forall_mem_cons.2 ⟨Nat.ne_of_lt lt6, HNE.out⟩⟩)
  have HFP := Lib.hid (fits_cells HPI.out.2)
  have HFQ := Lib.hid (fits_cells HQI.out.2)
  clear NE6 NE7 LT7
  generalize w6.heap.size = xp at *
  generalize w7.heap.size = xq at *
  have CA := Lib.hid C10.out.drew
  refine wp_region_held_drew (S := St [(xq, q.vals), (xp, p.vals), (x5, b.vals), (x4, a.vals)] w) (by kernel_rfl) S10.out.drew (fun hHeld => ?_)
  refine wpAnyH_take (i := 0) (v := (.agg (Pg.arr a))) rfl (by kernel_rfl) (by kernel_rfl) (by kernel_rfl) (fun _ _ _ h => h) (yieldsIf_load_mid (by rfl) 27 _ rfl x4 0 rfl a.vals _ (fun W hSw => RowAt.range (hSw.row (b := x4) (vs := a.vals) (by simp)) 0 (fun j v hv => by rw [Nat.zero_add]; exact hv)) Try.underlying27 rfl (by rw [vals_length]; exact info_page)) (by assumption) ?_
  try simp only [Act.put, List.getElem_toArray, List.getElem_cons_zero, List.setIfInBounds_toArray, List.set_cons_zero, List.set_cons_succ]
  refine wpAnyH_take (i := 1) (v := (.agg (Pg.arr b))) rfl (by kernel_rfl) (by kernel_rfl) (by kernel_rfl) (fun _ _ _ h => h) (yieldsIf_load_mid (by rfl) 27 _ rfl x5 0 rfl b.vals _ (fun W hSw => RowAt.range (hSw.row (b := x5) (vs := b.vals) (by simp)) 0 (fun j v hv => by rw [Nat.zero_add]; exact hv)) Try.underlying27 rfl (by rw [vals_length]; exact info_page)) (by assumption) ?_
  try simp only [Act.put, List.getElem_toArray, List.getElem_cons_zero, List.getElem_cons_succ, List.setIfInBounds_toArray, List.set_cons_zero, List.set_cons_succ]
  refine wpAnyH_take (i := 2) (v := (.agg (pairPA a b))) rfl (by kernel_rfl) (by kernel_rfl) (by kernel_rfl) (fun _ _ _ h => h) (yieldsIf_pairP a b (by rfl) rfl rfl rfl) (by assumption) ?_
  try simp only [Act.put, List.getElem_toArray, List.getElem_cons_zero, List.getElem_cons_succ, List.setIfInBounds_toArray, List.set_cons_zero, List.set_cons_succ]
  refine wpAnyH_take (i := 3) (v := (.agg (Pg.arr p))) rfl (by kernel_rfl) (by kernel_rfl) (by kernel_rfl) (fun _ _ _ h => h) (yieldsIf_load_mid (by rfl) 27 _ rfl xp 0 rfl p.vals _ (fun W hSw => RowAt.range (hSw.row (b := xp) (vs := p.vals) (by simp)) 0 (fun j v hv => by rw [Nat.zero_add]; exact hv)) Try.underlying27 rfl (by rw [vals_length]; exact info_page)) (by assumption) ?_
  try simp only [Act.put, List.getElem_toArray, List.getElem_cons_zero, List.getElem_cons_succ, List.setIfInBounds_toArray, List.set_cons_zero, List.set_cons_succ]
  refine wpAnyH_take (i := 4) (v := (.agg (Pg.arr q))) rfl (by kernel_rfl) (by kernel_rfl) (by kernel_rfl) (fun _ _ _ h => h) (yieldsIf_load_mid (by rfl) 27 _ rfl xq 0 rfl q.vals _ (fun W hSw => RowAt.range (hSw.row (b := xq) (vs := q.vals) (by simp)) 0 (fun j v hv => by rw [Nat.zero_add]; exact hv)) Try.underlying27 rfl (by rw [vals_length]; exact info_page)) (by assumption) ?_
  try simp only [Act.put, List.getElem_toArray, List.getElem_cons_zero, List.getElem_cons_succ, List.setIfInBounds_toArray, List.set_cons_zero, List.set_cons_succ]
  refine wpAnyH_take (i := 5) (v := (.agg (pairPA p q))) rfl (by kernel_rfl) (by kernel_rfl) (by kernel_rfl) (fun _ _ _ h => h) (yieldsIf_pairP p q (by rfl) rfl rfl rfl) (by assumption) ?_
  try simp only [Act.put, List.getElem_toArray, List.getElem_cons_zero, List.getElem_cons_succ, List.setIfInBounds_toArray, List.set_cons_zero, List.set_cons_succ]
  refine wpAnyH_take (i := 6) (v := (.agg (Pg.arr p))) rfl (by kernel_rfl) (by kernel_rfl) (by kernel_rfl) (fun _ _ _ h => h) (yieldsIf_load_mid (by rfl) 27 _ rfl xp 0 rfl p.vals _ (fun W hSw => RowAt.range (hSw.row (b := xp) (vs := p.vals) (by simp)) 0 (fun j v hv => by rw [Nat.zero_add]; exact hv)) Try.underlying27 rfl (by rw [vals_length]; exact info_page)) (by assumption) ?_
  try simp only [Act.put, List.getElem_toArray, List.getElem_cons_zero, List.getElem_cons_succ, List.setIfInBounds_toArray, List.set_cons_zero, List.set_cons_succ]
  refine wpAnyH_take (i := 7) (v := ?_) rfl (by kernel_rfl) (by kernel_rfl) (by kernel_rfl) (fun _ _ _ h => h) (Or.inl ⟨by rfl, ?_⟩) (by assumption) ?_
  rotate_left
  · (intro W _; go_simp; try with_reducible rfl)
  try simp only [Act.put, List.getElem_toArray, List.getElem_cons_zero, List.getElem_cons_succ, List.setIfInBounds_toArray, List.set_cons_zero, List.set_cons_succ]
  refine wpAnyH_take (i := 8) (v := (.agg (Pg.arr q))) rfl (by kernel_rfl) (by kernel_rfl) (by kernel_rfl) (fun _ _ _ h => h) (yieldsIf_load_mid (by rfl) 27 _ rfl xq 0 rfl q.vals _ (fun W hSw => RowAt.range (hSw.row (b := xq) (vs := q.vals) (by simp)) 0 (fun j v hv => by rw [Nat.zero_add]; exact hv)) Try.underlying27 rfl (by rw [vals_length]; exact info_page)) (by assumption) ?_
  try simp only [Act.put, List.getElem_toArray, List.getElem_cons_zero, List.getElem_cons_succ, List.setIfInBounds_toArray, List.set_cons_zero, List.set_cons_succ]
  refine wpAnyH_take (i := 11) (v := ?_) rfl (by kernel_rfl) (by kernel_rfl) (by kernel_rfl) (fun _ _ _ h => h) (Or.inl ⟨by rfl, ?_⟩) (by assumption) ?_
  rotate_left
  · (intro W _; go_simp; try with_reducible rfl)
  try simp only [Act.put, List.getElem_toArray, List.getElem_cons_zero, List.getElem_cons_succ, List.setIfInBounds_toArray, List.set_cons_zero, List.set_cons_succ]
  refine wpAnyH_take (i := 12) (v := (.agg (Pg.arr p))) rfl (by kernel_rfl) (by kernel_rfl) (by kernel_rfl) (fun _ _ _ h => h) (yieldsIf_load_mid (by rfl) 27 _ rfl xp 0 rfl p.vals _ (fun W hSw => RowAt.range (hSw.row (b := xp) (vs := p.vals) (by simp)) 0 (fun j v hv => by rw [Nat.zero_add]; exact hv)) Try.underlying27 rfl (by rw [vals_length]; exact info_page)) (by assumption) ?_
  try simp only [Act.put, List.getElem_toArray, List.getElem_cons_zero, List.getElem_cons_succ, List.setIfInBounds_toArray, List.set_cons_zero, List.set_cons_succ]
  refine wpAnyH_take (i := 14) (v := (.agg (Pg.arr q))) rfl (by kernel_rfl) (by kernel_rfl) (by kernel_rfl) (fun _ _ _ h => h) (yieldsIf_load_mid (by rfl) 27 _ rfl xq 0 rfl q.vals _ (fun W hSw => RowAt.range (hSw.row (b := xq) (vs := q.vals) (by simp)) 0 (fun j v hv => by rw [Nat.zero_add]; exact hv)) Try.underlying27 rfl (by rw [vals_length]; exact info_page)) (by assumption) ?_
  try simp only [Act.put, List.getElem_toArray, List.getElem_cons_zero, List.getElem_cons_succ, List.setIfInBounds_toArray, List.set_cons_zero, List.set_cons_succ]
  refine wpAnyH_take (i := 18) (v := ?_) rfl (by kernel_rfl) (by kernel_rfl) (by kernel_rfl) (fun _ _ _ h => h) (Or.inl ⟨by rfl, ?_⟩) (by assumption) ?_
  rotate_left
  · (intro W _; go_simp; try with_reducible rfl)
  try simp only [Act.put, List.getElem_toArray, List.getElem_cons_zero, List.getElem_cons_succ, List.setIfInBounds_toArray, List.set_cons_zero, List.set_cons_succ]
  refine wpAnyH_ready (rs := [9]) (by kernel_rfl) (by simp) (AllReadyH.cons rfl (fun K hK => ?_) AllReadyH.nil)
  · go_simp
    go_wp2_with (go_at_call 21; (with_reducible refine (odd_any c q _ CA.out HFQ.out).mono ?_); rintro e W5_1 ⟨o1, rfl, hfo1, hCo1, hgo1⟩)
    have CB1 := Lib.hid hCo1
    have HF1 := Lib.hid hfo1
    refine hK.out _ _ (hHeld.grown hgo1 HLE2.out HNX.out) (fun hH5_2 => ?_)
    clear hK K
    try simp only [Act.put, List.getElem_toArray, List.getElem_cons_zero, List.getElem_cons_succ, List.setIfInBounds_toArray, List.set_cons_zero, List.set_cons_succ]
    refine wpAnyH_take (i := 10) (v := (.agg (pairPA p o1))) rfl (by kernel_rfl) (by kernel_rfl) (by kernel_rfl) (fun _ _ _ h => h) (yieldsIf_pairP p o1 (by rfl) rfl rfl rfl) (by assumption) ?_
    try simp only [Act.put, List.getElem_toArray, List.getElem_cons_zero, List.getElem_cons_succ, List.setIfInBounds_toArray, List.set_cons_zero, List.set_cons_succ]
    refine wpAnyH_ready (rs := [13]) (by kernel_rfl) (by simp) (AllReadyH.cons rfl (fun K hK => ?_) AllReadyH.nil)
    · go_simp
      go_wp2_with (go_at_call 21; (with_reducible refine (odd_any c p _ CB1.out HFP.out).mono ?_); rintro e W5_3 ⟨o2, rfl, hfo2, hCo2, hgo2⟩)
      have CB2 := Lib.hid hCo2
      have HF2 := Lib.hid hfo2
      refine hK.out _ _ (hH5_2.grown hgo2 HLE2.out HNX.out) (fun hH5_4 => ?_)
      clear hK K
      try simp only [Act.put, List.getElem_toArray, List.getElem_cons_zero, List.getElem_cons_succ, List.setIfInBounds_toArray, List.set_cons_zero, List.set_cons_succ]
      refine wpAnyH_take (i := 15) (v := (.agg (pairPA o2 q))) rfl (by kernel_rfl) (by kernel_rfl) (by kernel_rfl) (fun _ _ _ h => h) (yieldsIf_pairP o2 q (by rfl) rfl rfl rfl) (by assumption) ?_
      try simp only [Act.put, List.getElem_toArray, List.getElem_cons_zero, List.getElem_cons_succ, List.setIfInBounds_toArray, List.set_cons_zero, List.set_cons_succ]
      refine wpAnyH_ready (rs := [16]) (by kernel_rfl) (by simp) (AllReadyH.cons rfl (fun K hK => ?_) AllReadyH.nil)
      · simp only [List.getElem_toArray, List.getElem_cons_zero, List.getElem_cons_succ]
        rw [if_pos (by rfl)]
        with_reducible refine op_quadP a b p q p o1 o2 q (by rfl) ?_ ?_ ?_ ?_ (fun w5x hR5 hb5 => ?_)
        · rfl
        · rfl
        · rfl
        · rfl
        have R5 := Lib.hid hR5
        refine hK.out _ _ (hH5_4.keep hb5) (fun hH5_6 => ?_)
        clear hK K
        simp only [Act.put, List.setIfInBounds_toArray, List.set_cons_zero, List.set_cons_succ]
        refine wpAnyH_take (i := 17) (v := ?_) rfl (by kernel_rfl) (by kernel_rfl) (by kernel_rfl) (fun _ _ _ h => h) (Or.inl ⟨by rfl, ?_⟩) (by assumption) ?_
        rotate_left
        · (intro W _; go_simp; try with_reducible rfl)
        try simp only [Act.put, List.getElem_toArray, List.getElem_cons_zero, List.getElem_cons_succ, List.setIfInBounds_toArray, List.set_cons_zero, List.set_cons_succ]
        refine wpAnyH_done (by kernel_rfl) ?_ _
        have SC := Lib.hid ((hH5_6.sub (l' := [(xq, q.vals), (xp, p.vals)]) (fun x hx => by simp only [List.mem_cons, List.not_mem_nil, or_false] at hx ⊢; rcases hx with h | h <;> simp [h])).add R5.out)
        have CC := Lib.hid (cod_keep CB2.out hb5)
        have Q4 := Lib.hid (quadP_at a b p q p o1 o2 q FA.out FB.out HFP.out HFQ.out HFP.out HF1.out HF2.out HFQ.out)
        have hcb := cod_lt CB2.out
        clear hR5 hb5 R5
        generalize quadP a b p q p o1 o2 q = l4 at *
        generalize W5_3.heap.size = bs at *
        go_wp2_with fail
        have PQ0 := Lib.hid (diffE_zero HPI.out.1 HQI.out.1 HPI.out.2 HQI.out.2)
        go_loopw [50] (fun i wr => ∃ jj : Nat, jj ≤ 4 ∧ i = .int .i64 jj ∧ St [(bs, l4), (xq, q.vals), (xp, p.vals)] w wr ∧ Cod c wr) (fun i _ => 4 - (intOf i).toNat)
        case atStart => exact ⟨0, by omega, rfl, SC.out, CC.out⟩
        case round =>
          obtain ⟨jj, hj, rfl, h1, h2⟩ := hrel
          have S30 := Lib.hid h1
          have C30 := Lib.hid h2
          have l30 := cod_lt h2
          clear SC CC h1 h2
          by_cases hj4 : jj < 4
          · obtain ⟨z0, z1, hf0, hf1, hz⟩ := Q4.out jj hj4
            have HZ := Lib.hid hz
            have q2 : (0 : Int) ≤ (jj : Int) := by omega
            have q3 : (jj : Int) < 4 := by omega
            obtain ⟨n5, hn5⟩ : ∃ n, diffE z0 z1 = n := ⟨_, rfl⟩
            have HD1 : Hid (∀ W, Calls Try.prog 24 #[.agg z0.arr, .agg z1.arr] W fun e w' => ∃ v, e = .returned (.tuple #[v, .int .i64 n5]) ∧ w'.ownsRow W.heap.size 29 6 v (diffL z0 z1).length (flat (diffL z0 z1)) ∧ Below W.heap.size W w') := Lib.hid fun W => by
              have := diff_any z0 z1 W hf0 hf1
              unfold DiffR at this
              rwa [hn5] at this
            have HD2 : Hid (∀ W, Calls Try.prog 25 #[.agg z0.arr, .agg z1.arr] W fun e w' => ∃ v, e = .returned (.tuple #[v, .int .i64 n5]) ∧ w'.ownsRow W.heap.size 29 6 v (diffL z0 z1).length (flat (diffL z0 z1)) ∧ Below W.heap.size W w') := Lib.hid fun W => by
              have := refDiff_any z0 z1 W hf0 hf1
              unfold DiffR at this
              rwa [hn5] at this
            generalize diffL z0 z1 = dl at *
            clear hf0 hf1 hz hn5
            go_wp2_with (first
              | (refine wp_loadPairPAt z0 z1 (jj * 68) (S30.out.row (b := bs) (vs := l4) (by simp)) HZ.out rfl rfl rfl ?_)
              | (have _t := S30.out; refine wp_newPairP rfl rfl ?_; intro w31 hP hb _; have N31 := Lib.hid hP; have M31 := Lib.hid hb; have C31 := Lib.hid (cod_keep C30.out hb); clear hP hb _t C30)
              | (refine wp_storePairP z0 z1 N31.out (pairP_length _ _) rfl rfl rfl rfl ?_; intro w32 hP hS; have S32 := Lib.hid (S30.out.push M31.out hP hS); have C32 := Lib.hid (hS.cod C31.out l30); clear hP hS S30 N31 M31 C31)
              | (refine wp_loadPageAt z0 0 (S32.out.row (vs := pairP z0 z1) (List.mem_cons_self ..)) (fun t v hv => pairP0 hv) rfl rfl rfl ?_)
              | (refine wp_loadPageAt z1 34 (S32.out.row (vs := pairP z0 z1) (List.mem_cons_self ..)) (fun t v hv => pairP1 hv) rfl rfl rfl ?_)
              | (go_at_call 24; (with_reducible refine (HD1.out _).mono ?_); rintro e w33 ⟨v1, rfl, hO, hb⟩; have S33 := Lib.hid (S32.out.keep hb); have C33 := Lib.hid (cod_keep C32.out hb); have O33 := Lib.hid hO; clear hb hO S32 C32)
              | (refine wp_loadPageAt z0 0 (S33.out.row (vs := pairP z0 z1) (List.mem_cons_self ..)) (fun t v hv => pairP0 hv) rfl rfl rfl ?_)
              | (refine wp_loadPageAt z1 34 (S33.out.row (vs := pairP z0 z1) (List.mem_cons_self ..)) (fun t v hv => pairP1 hv) rfl rfl rfl ?_)
              | (go_at_call 25; (with_reducible refine (HD2.out _).mono ?_); rintro e w34 ⟨v2, rfl, hO, hb⟩; have S34 := Lib.hid (S33.out.keep hb); have C34 := Lib.hid (cod_keep C33.out hb); have O34 := Lib.hid hO; have P34 := Lib.hid (own_keep O33.out hb); clear hb hO S33 C33 O33)
              | (go_at_call 26; (with_reducible refine (same_any dl v1 v2 _ _ _ P34.out O34.out).mono ?_); rintro e w35 ⟨rfl, hb⟩; have S35 := Lib.hid (S34.out.keep hb); have C35 := Lib.hid (cod_keep C34.out hb); clear hb S34 C34 O34 P34))
            go_roundw
            case rel => exact ⟨jj + 1, by omega, by go_num, S35.out.sub (fun x hx => List.mem_cons_of_mem _ hx), C35.out⟩
            case measure => simp [intOf]; omega
          · have hj2 : jj = 4 := by omega
            subst hj2
            clear Q4 hj hj4
            have HD3 : Hid (∀ W, Calls Try.prog 24 #[.agg p.arr, .agg q.arr] W fun e w' => ∃ v, e = .returned (.tuple #[v, .int .i64 0]) ∧ w'.ownsRow W.heap.size 29 6 v (diffN p q 16).length (flat (diffN p q 16)) ∧ Below W.heap.size W w') := Lib.hid fun W => by
              have := diff_any p q W HFP.out HFQ.out
              unfold DiffR diffL at this
              rwa [PQ0.out, if_pos rfl] at this
            obtain ⟨ds, hds⟩ : ∃ ds, diffN p q 16 = ds := ⟨_, rfl⟩
            have HDS := Lib.hid hds
            rw [hds] at HD3
            clear hds
            obtain ⟨n, hn⟩ : ∃ n, ds.length = n := ⟨_, rfl⟩
            have HN := Lib.hid hn
            have hn16 : n ≤ 16 := by have := diffN_len p q 16; rw [HDS.out] at this; omega
            rw [hn] at HD3
            clear hn
            go_wp2_with (first
              | (refine wp_loadPage p (S30.out.row (b := xp) (vs := p.vals) (by simp)) rfl rfl rfl ?_)
              | (refine wp_loadPage q (S30.out.row (b := xq) (vs := q.vals) (by simp)) rfl rfl rfl ?_)
              | (go_at_call 24; (with_reducible refine (HD3.out _).mono ?_); rintro e w41 ⟨v, rfl, hO, hb⟩; have S41 := Lib.hid (S30.out.keep hb); have C41 := Lib.hid (cod_keep C30.out hb); have O41 := Lib.hid hO; have Q41 := Lib.hid (own_less hO); clear hb hO S30 C30)
              | (refine wp_loadPage p (S41.out.row (b := xp) (vs := p.vals) (by simp)) rfl rfl rfl ?_)
              | (have _t := S41.out; refine wp_newPageW rfl rfl ?_; intro w42 hP hb _; have N42 := Lib.hid hP; have M42 := Lib.hid hb; have C42 := Lib.hid (cod_keep C41.out hb); have O42 := Lib.hid (own_keep O41.out hb); clear hP hb _t O41)
              | (refine wp_storePageW p N42.out (vals_length _) rfl rfl rfl rfl ?_; intro w43 hP hS; have S43 := Lib.hid (S41.out.push M42.out hP hS); have C43 := Lib.hid (hS.cod C42.out (cod_lt C41.out)); have O43 := Lib.hid (own_stored O42.out hS Q41.out); have NE43 := Lib.hid S41.out.ne; have LE43 := Lib.hid S41.out.2.size; have lr := cod_lt C41.out; clear hP hS S41 N42 M42 C42 O42 C41))
            generalize w41.heap.size = xr at *
            obtain ⟨so2, cp2, hv, hl2, hm2, hopen⟩ := own_open O43.out
            subst hv
            obtain ⟨g, cl, hS, hgr, hcg, hgo⟩ : ∃ (g : Nat) (cl : List Value), St [(g, cl), (xr, p.vals), (xq, q.vals), (xp, p.vals)] w w43 ∧ g ≠ xr ∧ c ≠ g ∧ (0 < n → so2 = some ⟨g, 0, none⟩ ∧ ∀ (i : Nat) (u : Value), (flat ds)[i]? = some u → cl[i]? = some u) := by
              rcases Nat.eq_zero_or_pos n with h0 | h0
              · exact ⟨bs, l4, S43.out.sub (fun x hx => by simp only [List.mem_cons, List.not_mem_nil, or_false] at hx ⊢; rcases hx with h | h | h | h <;> simp [h]), (NE43.out (bs, l4) (List.mem_cons_self ..)).symm, Nat.ne_of_lt hcb, fun h => by omega⟩
              · obtain ⟨g, cl, rfl, hb, hr, hc⟩ := hopen h0
                exact ⟨g, cl, (S43.out.sub (l' := [(xr, p.vals), (xq, q.vals), (xp, p.vals)]) (fun x hx => by simp only [List.mem_cons, List.not_mem_nil, or_false] at hx ⊢; rcases hx with h | h | h <;> simp [h])).add hr, Q41.out g rfl, by omega, fun _ => ⟨rfl, hc⟩⟩
            have NEr : Hid (∀ x ∈ [(g, cl), (xq, q.vals), (xp, p.vals)], xr ≠ x.1) := Lib.hid (List.forall_mem_cons.2 ⟨hgr.symm, fun x hx => NE43.out x (List.mem_cons_of_mem _ hx)⟩)
            have HN5 : Hid (∀ (r : Pg), ∀ x ∈ [(g, cl), (xr, r.vals), (xq, q.vals), (xp, p.vals)], c ≠ x.1) := Lib.hid fun r => List.forall_mem_cons.2 ⟨hcg, List.forall_mem_cons.2 ⟨Nat.ne_of_lt lr, fun x hx => HNX.out x (by simp only [List.mem_cons, List.not_mem_nil, or_false] at hx ⊢; rcases hx with h | h <;> simp [h])⟩⟩
            have S44 := Lib.hid hS
            have HGO := Lib.hid hgo
            clear hS hgo hopen O43 S43 Q41 hgr hcg NE43
            go_wp2_with fail
            go_loopw [19] (fun iv wx => ∃ (ii : Nat) (A : Nat → Bool) (r : Pg), ii ≤ n ∧ iv = .int .i64 ii ∧ MixOf p q r A ∧ cnt (fun j => A (slotAt ds j)) n = ii ∧ St [(g, cl), (xr, r.vals), (xq, q.vals), (xp, p.vals)] w wx ∧ Cod c wx) (fun i _ => n - (intOf i).toNat)
            case atStart => exact ⟨0, fun _ => false, p, by omega, rfl, mix_none p q, cnt_zero n, S44.out, C43.out⟩
            case round =>
              obtain ⟨ii, A, r, hii, rfl, h1, h2, h3, h4⟩ := hrel
              have HM := Lib.hid h1
              have HCN := Lib.hid h2
              have S50 := Lib.hid h3
              have C50 := Lib.hid h4
              clear S44 C43 h1 h2 h3 h4
              by_cases hin : ii < n
              · obtain ⟨rfl, hcl⟩ := HGO.out (by omega)
                have HCL := Lib.hid hcl
                have q4 : (ii : Int) < (n : Int) := by omega
                clear hcl
                go_wp2_with fail
                go_at_call 10
                refine (next_any c (n : Int) _ C50.out (by omega)).mono ?_
                rintro e w51 ⟨k0, rfl, hk0, hk1, _, hC, hg⟩
                have hk2 := hk1 (by omega)
                obtain ⟨k0, rfl⟩ := Int.eq_ofNat_of_zero_le hk0
                have hk : k0 < n := by omega
                have S51 := Lib.hid (S50.out.grown hg HLE2.out (HN5.out r))
                have C51 := Lib.hid hC
                clear hk0 hk1 hk2 hC hg S50 C50
                go_wp2_with fail
                go_loopw [20, 21] (fun kv nv wx => ∃ kk nn : Nat, kv = .int .i64 kk ∧ nv = .int .i64 nn ∧ kk < n ∧ nn ≤ n ∧ kk = (k0 + nn) % n ∧ (∀ t, t < nn → A (slotAt ds ((k0 + t) % n)) = true) ∧ St [(g, cl), (xr, r.vals), (xq, q.vals), (xp, p.vals)] w wx ∧ Cod c wx) (fun _ nv _ => n - (intOf nv).toNat)
                case atStart => exact ⟨k0, 0, rfl, rfl, hk, by omega, by rw [Nat.add_zero, Nat.mod_eq_of_lt hk], fun t ht => by omega, S51.out, C51.out⟩
                case round =>
                  obtain ⟨kk, nn, rfl, rfl, hkn, hnn, hke, h1, h2, h3⟩ := hrel
                  have HT := Lib.hid h1
                  have HKE := Lib.hid hke
                  have S60 := Lib.hid h2
                  have C60 := Lib.hid h3
                  clear S51 C51 h1 h2 h3 hke
                  have hnl : nn < n := by
                    rcases Nat.lt_or_ge nn n with h | h
                    · exact h
                    · exfalso
                      have hnn2 : nn = n := by omega
                      have := cnt_full (f := fun j => A (slotAt ds j)) (n := n) (ring_all hk (fun t ht => HT.out t (by omega)))
                      rw [HCN.out] at this
                      omega
                  obtain ⟨s, hs16, hx, hsl, hdf⟩ := slot_facts HDS.out (j := kk) (by rw [HN.out]; exact hkn)
                  have HX := Lib.hid hx
                  have HSL := Lib.hid hsl
                  have q5 : (0 : Int) ≤ (kk : Int) := by omega
                  have q6 : (kk : Int) < (n : Int) := by omega
                  have q7 : (0 : Int) ≤ (s : Int) := by omega
                  have q8 : (s : Int) < 16 := by omega
                  have q9 : (nn : Int) < (n : Int) := by omega
                  have rg := S60.out.row (b := g) (vs := cl) (by simp)
                  have rr := S60.out.row (b := xr) (vs := r.vals) (by simp)
                  have i1 := rg.cells (kk * 6 + 1) _ (HCL.out _ _ (flat_at ds kk _ 1 _ hx rfl))
                  have i4 := rg.cells (kk * 6 + 4) _ (HCL.out _ _ (flat_at ds kk _ 4 _ hx rfl))
                  have i5 := rg.cells (kk * 6 + 4 + 1) _ (HCL.out _ _ (flat_at ds kk _ 5 _ hx rfl))
                  have r1 := PgAt.setAt (p := r) rr hs16
                  have r2 := PgAt.dataAt (p := r) rr hs16
                  simp only at i1 i4 i5
                  have ce := cell_eql (r.cell s) (q.cell s)
                  clear rg rr hx hsl
                  cases hA : A s
                  · have hrs : r.cell s = p.cell s := by have := HM.out.2.2 s hs16; rw [hA] at this; exact this
                    rw [hrs, hdf] at ce
                    rw [hrs] at r1 r2
                    have HAF := Lib.hid hA
                    have HXV : Hid (∀ t v, (Chg.vals ⟨p.id, (s : Int), p.cell s, q.cell s⟩)[t]? = some v → cl[kk * 6 + t]? = some v) := Lib.hid fun t v h => HCL.out _ _ (flat_at ds kk _ t v HX.out h)
                    have hvx := valid_is (n := 2) (k := s) (by decide) hs16 (cellB_at HPI.out.2 hs16) (cellB_at HQI.out.2 hs16)
                    rw [← HPI.out.1] at hvx
                    have hap := apply_is (p := r) (c := ⟨p.id, (s : Int), p.cell s, q.cell s⟩) s hvx.2 hvx.1 HM.out.1.symm (by show (s : Int).toNat = s; omega) hrs
                    have hmz := mix_put HM.out s
                    obtain ⟨z, hz⟩ : ∃ z, putCell r s (q.cell s) = z := ⟨_, rfl⟩
                    have hap2 : ApplyIs r ⟨p.id, (s : Int), p.cell s, q.cell s⟩ z := hz ▸ hap
                    rw [hz] at hmz
                    have HAP := Lib.hid hap2
                    have HMZ := Lib.hid hmz
                    have HCZ := Lib.hid (cnt_mix HDS.out HN.out hkn HSL.out hA HCN.out)
                    clear hA hrs hdf hvx hap hap2 hmz hz
                    go_wp2_with fail
                    go_quiet (fail)
                    go_wp2_with fail
                    have S70 : Hid (St [(g, cl), (xr, r.vals), (xq, q.vals), (xp, p.vals)] w (wr.drewN nq)) := Lib.hid ⟨fun x hx => (S60.out.1 x hx).drewN _, S60.out.2.drewN _⟩
                    have C71 := Lib.hid (C60.out.drewN nq).drew
                    clear S60 C60 i1 i4 i5 r1 r2 ce
                    refine wp_region_held_drew (S := St [(g, cl), (xr, r.vals), (xq, q.vals), (xp, p.vals)] w) (by kernel_rfl) S70.out.drew (fun hHeld => ?_)
                    refine wpAnyH_take (i := 0) (v := (.agg (Pg.arr r))) rfl (by kernel_rfl) (by kernel_rfl) (by kernel_rfl) (fun _ _ _ h => h) (yieldsIf_load_mid (by rfl) 27 _ rfl xr 0 rfl r.vals _ (fun W hSw => RowAt.range (hSw.row (b := xr) (vs := r.vals) (by simp)) 0 (fun j v hv => by rw [Nat.zero_add]; exact hv)) Try.underlying27 rfl (by rw [vals_length]; exact info_page)) (by assumption) ?_
                    try simp only [Act.put, List.getElem_toArray, List.getElem_cons_zero, List.setIfInBounds_toArray, List.set_cons_zero, List.set_cons_succ]
                    refine wpAnyH_take (i := 1) (v := ?_) rfl (by kernel_rfl) (by kernel_rfl) (by kernel_rfl) (fun _ _ _ h => h) (Or.inl ⟨by rfl, ?_⟩) (by assumption) ?_
                    rotate_left
                    · (intro W _; go_simp; try with_reducible rfl)
                    try simp only [Act.put, List.getElem_toArray, List.getElem_cons_zero, List.getElem_cons_succ, List.setIfInBounds_toArray, List.set_cons_zero, List.set_cons_succ]
                    refine wpAnyH_take (i := 2) (v := ?_) rfl (by kernel_rfl) (by kernel_rfl) (by kernel_rfl) (fun _ _ _ h => h) (Or.inl ⟨by rfl, ?_⟩) (by assumption) ?_
                    rotate_left
                    · (intro W _; go_simp; try with_reducible rfl)
                    try simp only [Act.put, List.getElem_toArray, List.getElem_cons_zero, List.getElem_cons_succ, List.setIfInBounds_toArray, List.set_cons_zero, List.set_cons_succ]
                    refine wpAnyH_take (i := 3) (v := ?_) rfl (by kernel_rfl) (by kernel_rfl) (by kernel_rfl) (fun _ _ _ h => h) (Or.inl ⟨by rfl, ?_⟩) (by assumption) ?_
                    rotate_left
                    · (intro W _; go_simp; try with_reducible rfl)
                    try simp only [Act.put, List.getElem_toArray, List.getElem_cons_zero, List.getElem_cons_succ, List.setIfInBounds_toArray, List.set_cons_zero, List.set_cons_succ]
                    refine wpAnyH_take (i := 4) (v := (.agg (Chg.arr ⟨p.id, (s : Int), p.cell s, q.cell s⟩))) rfl (by kernel_rfl) (by kernel_rfl) (by kernel_rfl) (fun _ _ _ h => h) (yieldsIf_load_mid (by rfl) 29 _ rfl g (kk * 6) rfl (Chg.vals ⟨p.id, (s : Int), p.cell s, q.cell s⟩) _ (fun W hSw => RowAt.range (hSw.row (b := g) (vs := cl) (by simp)) (kk * 6) (fun j v hv => HXV.out j v hv)) Try.underlying29 rfl info_change) (by assumption) ?_
                    try simp only [Act.put, List.getElem_toArray, List.getElem_cons_zero, List.getElem_cons_succ, List.setIfInBounds_toArray, List.set_cons_zero, List.set_cons_succ]
                    refine wpAnyH_ready (rs := [5, 9]) (by kernel_rfl) (by simp) (AllReadyH.cons rfl (fun K hK => ?_) (AllReadyH.cons rfl (fun K hK => ?_) AllReadyH.nil))
                    · go_simp
                      go_wp2_with (go_at_call 22; (with_reducible refine (HAP.out _).mono ?_); rintro e W23_1 ⟨rfl, hb23_3⟩)
                      have C23_4 := Lib.hid (cod_keep C71.out hb23_3)
                      refine hK.out _ _ (hHeld.keep hb23_3) (fun hH23_2 => ?_)
                      clear hK K
                      try simp only [Act.put, List.getElem_toArray, List.getElem_cons_zero, List.getElem_cons_succ, List.setIfInBounds_toArray, List.set_cons_zero, List.set_cons_succ]
                      refine wpAnyH_take (i := 6) (v := ?_) rfl (by kernel_rfl) (by kernel_rfl) (by kernel_rfl) (fun _ _ _ h => h) (Or.inl ⟨by rfl, ?_⟩) (by assumption) ?_
                      rotate_left
                      · (intro W _; go_simp; try with_reducible rfl)
                      try simp only [Act.put, List.getElem_toArray, List.getElem_cons_zero, List.getElem_cons_succ, List.setIfInBounds_toArray, List.set_cons_zero, List.set_cons_succ]
                      refine wpAnyH_take (i := 7) (v := ?_) rfl (by kernel_rfl) (by kernel_rfl) (by kernel_rfl) (fun _ _ _ h => h) (Or.inl ⟨by rfl, ?_⟩) (by assumption) ?_
                      rotate_left
                      · (intro W _; go_simp; try with_reducible rfl)
                      try simp only [Act.put, List.getElem_toArray, List.getElem_cons_zero, List.getElem_cons_succ, List.setIfInBounds_toArray, List.set_cons_zero, List.set_cons_succ]
                      refine wpAnyH_take (i := 8) (v := ?_) rfl (by kernel_rfl) (by kernel_rfl) (by kernel_rfl) (fun _ _ _ h => h) (Or.inl ⟨by rfl, ?_⟩) (by assumption) ?_
                      rotate_left
                      · (intro W _; go_simp; try with_reducible rfl)
                      try simp only [Act.put, List.getElem_toArray, List.getElem_cons_zero, List.getElem_cons_succ, List.setIfInBounds_toArray, List.set_cons_zero, List.set_cons_succ]
                      refine wpAnyH_ready (rs := [9]) (by kernel_rfl) (by simp) (AllReadyH.cons rfl (fun K hK => ?_) AllReadyH.nil)
                      · have ne23_9 := Lib.hid hH23_2.ne
                        have le23_10 := Lib.hid hH23_2.2.size
                        simp only [List.getElem_toArray, List.getElem_cons_zero, List.getElem_cons_succ]
                        rw [if_pos (by rfl)]
                        with_reducible refine op_newPage (by rfl) (fun W23_5 hP23_7 hb23_8 _ => ?_)
                        have r23_11 := Lib.hid hP23_7
                        have l23_13 := Lib.hid (cod_lt C23_4.out)
                        have C23_12 := Lib.hid (cod_keep C23_4.out hb23_8)
                        refine hK.out _ _ (hH23_2.keep hb23_8) (fun hH23_6 => ?_)
                        clear hK K
                        simp only [Act.put, List.setIfInBounds_toArray, List.set_cons_zero, List.set_cons_succ]
                        refine wpAnyH_ready (rs := [10]) (by kernel_rfl) (by simp) (AllReadyH.cons rfl (fun K hK => ?_) AllReadyH.nil)
                        · simp only [List.getElem_toArray, List.getElem_cons_zero, List.getElem_cons_succ]
                          rw [if_pos (by rfl)]
                          with_reducible refine op_storePage z r23_11.out (vals_length _) (by rfl) ?_ ?_ (fun W23_14 hP23_16 hS23_17 => ?_)
                          · rfl
                          · rfl
                          have r23_18 := Lib.hid hP23_16
                          have C23_19 := Lib.hid (hS23_17.cod C23_12.out l23_13.out)
                          refine hK.out _ _ (hH23_6.stored ne23_9.out le23_10.out hS23_17) (fun hH23_15 => ?_)
                          clear hK K
                          simp only [Act.put]
                          refine wpAnyH_take (i := 11) (v := ?_) rfl (by kernel_rfl) (by kernel_rfl) (by kernel_rfl) (fun _ _ _ h => h) (Or.inl ⟨by rfl, ?_⟩) (by assumption) ?_
                          rotate_left
                          · (intro W _; go_simp; try with_reducible rfl)
                          try simp only [Act.put, List.getElem_toArray, List.getElem_cons_zero, List.getElem_cons_succ, List.setIfInBounds_toArray, List.set_cons_zero, List.set_cons_succ]
                          refine wpAnyH_done (by kernel_rfl) ?_ _
                          go_wp2_with (first
                            | (refine wp_loadPage z r23_18.out rfl rfl rfl ?_)
                            | (refine wp_storePageW z (hH23_15.row (b := xr) (vs := r.vals) (by simp)) (vals_length _) rfl rfl rfl rfl ?_; intro w80 hP hS; have S80 : Hid (St [(xr, z.vals), (g, cl), (xq, q.vals), (xp, p.vals)] w w80) := Lib.hid (((hH23_15.sub (l' := [(g, cl), (xq, q.vals), (xp, p.vals)]) (fun x hx => by simp only [List.mem_cons, List.not_mem_nil, or_false] at hx ⊢; rcases hx with h | h | h <;> simp [h])).stored NEr.out LE43.out hS).add hP); have C80 := Lib.hid (hS.cod C23_19.out lr); clear hP hS))
                          go_roundw
                          case rel => exact ⟨ii + 1, fun t => A t || t == s, z, by omega, by go_num, HMZ.out, HCZ.out, S80.out.sub (fun x hx => by simp only [List.mem_cons, List.not_mem_nil, or_false] at hx ⊢; rcases hx with h | h | h | h <;> simp [h]), C80.out⟩
                          case measure => simp [intOf]; omega
                    · have ne23_24 := Lib.hid hHeld.ne
                      have le23_25 := Lib.hid hHeld.2.size
                      simp only [List.getElem_toArray, List.getElem_cons_zero, List.getElem_cons_succ]
                      rw [if_pos (by rfl)]
                      with_reducible refine op_newPage (by rfl) (fun W23_20 hP23_22 hb23_23 _ => ?_)
                      have r23_26 := Lib.hid hP23_22
                      have l23_28 := Lib.hid (cod_lt C71.out)
                      have C23_27 := Lib.hid (cod_keep C71.out hb23_23)
                      refine hK.out _ _ (hHeld.keep hb23_23) (fun hH23_21 => ?_)
                      clear hK K
                      simp only [Act.put, List.setIfInBounds_toArray, List.set_cons_zero, List.set_cons_succ]
                      refine wpAnyH_ready (rs := [5]) (by kernel_rfl) (by simp) (AllReadyH.cons rfl (fun K hK => ?_) AllReadyH.nil)
                      · go_simp
                        go_wp2_with (go_at_call 22; (with_reducible refine (HAP.out _).mono ?_); rintro e W23_29 ⟨rfl, hb23_31⟩)
                        have r23_32 := Lib.hid (RowAt.keep r23_26.out hb23_31)
                        have C23_33 := Lib.hid (cod_keep C23_27.out hb23_31)
                        refine hK.out _ _ (hH23_21.keep hb23_31) (fun hH23_30 => ?_)
                        clear hK K
                        try simp only [Act.put, List.getElem_toArray, List.getElem_cons_zero, List.getElem_cons_succ, List.setIfInBounds_toArray, List.set_cons_zero, List.set_cons_succ]
                        refine wpAnyH_take (i := 6) (v := ?_) rfl (by kernel_rfl) (by kernel_rfl) (by kernel_rfl) (fun _ _ _ h => h) (Or.inl ⟨by rfl, ?_⟩) (by assumption) ?_
                        rotate_left
                        · (intro W _; go_simp; try with_reducible rfl)
                        try simp only [Act.put, List.getElem_toArray, List.getElem_cons_zero, List.getElem_cons_succ, List.setIfInBounds_toArray, List.set_cons_zero, List.set_cons_succ]
                        refine wpAnyH_take (i := 7) (v := ?_) rfl (by kernel_rfl) (by kernel_rfl) (by kernel_rfl) (fun _ _ _ h => h) (Or.inl ⟨by rfl, ?_⟩) (by assumption) ?_
                        rotate_left
                        · (intro W _; go_simp; try with_reducible rfl)
                        try simp only [Act.put, List.getElem_toArray, List.getElem_cons_zero, List.getElem_cons_succ, List.setIfInBounds_toArray, List.set_cons_zero, List.set_cons_succ]
                        refine wpAnyH_take (i := 8) (v := ?_) rfl (by kernel_rfl) (by kernel_rfl) (by kernel_rfl) (fun _ _ _ h => h) (Or.inl ⟨by rfl, ?_⟩) (by assumption) ?_
                        rotate_left
                        · (intro W _; go_simp; try with_reducible rfl)
                        try simp only [Act.put, List.getElem_toArray, List.getElem_cons_zero, List.getElem_cons_succ, List.setIfInBounds_toArray, List.set_cons_zero, List.set_cons_succ]
                        refine wpAnyH_ready (rs := [10]) (by kernel_rfl) (by simp) (AllReadyH.cons rfl (fun K hK => ?_) AllReadyH.nil)
                        · simp only [List.getElem_toArray, List.getElem_cons_zero, List.getElem_cons_succ]
                          rw [if_pos (by rfl)]
                          with_reducible refine op_storePage z r23_32.out (vals_length _) (by rfl) ?_ ?_ (fun W23_34 hP23_36 hS23_37 => ?_)
                          · rfl
                          · rfl
                          have r23_38 := Lib.hid hP23_36
                          have C23_39 := Lib.hid (hS23_37.cod C23_33.out l23_28.out)
                          refine hK.out _ _ (hH23_30.stored ne23_24.out le23_25.out hS23_37) (fun hH23_35 => ?_)
                          clear hK K
                          simp only [Act.put]
                          refine wpAnyH_take (i := 11) (v := ?_) rfl (by kernel_rfl) (by kernel_rfl) (by kernel_rfl) (fun _ _ _ h => h) (Or.inl ⟨by rfl, ?_⟩) (by assumption) ?_
                          rotate_left
                          · (intro W _; go_simp; try with_reducible rfl)
                          try simp only [Act.put, List.getElem_toArray, List.getElem_cons_zero, List.getElem_cons_succ, List.setIfInBounds_toArray, List.set_cons_zero, List.set_cons_succ]
                          refine wpAnyH_done (by kernel_rfl) ?_ _
                          go_wp2_with (first
                            | (refine wp_loadPage z r23_38.out rfl rfl rfl ?_)
                            | (refine wp_storePageW z (hH23_35.row (b := xr) (vs := r.vals) (by simp)) (vals_length _) rfl rfl rfl rfl ?_; intro w80 hP hS; have S80 : Hid (St [(xr, z.vals), (g, cl), (xq, q.vals), (xp, p.vals)] w w80) := Lib.hid (((hH23_35.sub (l' := [(g, cl), (xq, q.vals), (xp, p.vals)]) (fun x hx => by simp only [List.mem_cons, List.not_mem_nil, or_false] at hx ⊢; rcases hx with h | h | h <;> simp [h])).stored NEr.out LE43.out hS).add hP); have C80 := Lib.hid (hS.cod C23_39.out lr); clear hP hS))
                          go_roundw
                          case rel => exact ⟨ii + 1, fun t => A t || t == s, z, by omega, by go_num, HMZ.out, HCZ.out, S80.out.sub (fun x hx => by simp only [List.mem_cons, List.not_mem_nil, or_false] at hx ⊢; rcases hx with h | h | h | h <;> simp [h]), C80.out⟩
                          case measure => simp [intOf]; omega
                  · have hrs : r.cell s = q.cell s := by have := HM.out.2.2 s hs16; rw [hA] at this; exact this
                    rw [hrs, sameC_self] at ce
                    rw [hrs] at r1 r2
                    have HAT := Lib.hid hA
                    clear hA hrs hdf
                    go_wp2_with fail
                    go_quiet (fail)
                    have ri := ring_int kk n
                    go_wp2_with fail
                    go_roundw
                    case rel => exact ⟨(kk + 1) % n, nn + 1, by go_num, by go_num, Nat.mod_lt _ (by omega), by omega, ring_step HKE.out, fun t ht => by
                      by_cases e : t = nn
                      · subst e; rw [← HKE.out, HSL.out]; exact HAT.out
                      · exact HT.out t (by omega), ⟨fun x hx => (S60.out.1 x hx).drewN _, S60.out.2.drewN _⟩, C60.out.drewN _⟩
                    case measure => simp [intOf]; omega
              · have hin2 : n = ii := by omega
                subst hin2
                have hall := mix_all HDS.out HM.out HN.out (cnt_all HCN.out)
                have ce := cells_eql r q
                rw [hall] at ce
                have hls := HM.out.2.1
                have rr := S50.out.row (b := xr) (vs := r.vals) (by simp)
                have rp := S50.out.row (b := xp) (vs := p.vals) (by simp)
                have i1 := PgAt.lsnAt (p := r) rr
                have i2 := PgAt.lsnAt (p := p) rp
                rw [hls] at i1
                clear rr rp hls hall
                go_wp2_with (first
                  | (refine wp_loadCells r (S50.out.row (b := xr) (vs := r.vals) (by simp)) rfl rfl rfl ?_)
                  | (refine wp_loadCells q (S50.out.row (b := xq) (vs := q.vals) (by simp)) rfl rfl rfl ?_))
                go_ret
                exact ⟨rfl, S50.out.2⟩
end Go.Proofs.Ytkcgcddpgfcgiaa.ku
