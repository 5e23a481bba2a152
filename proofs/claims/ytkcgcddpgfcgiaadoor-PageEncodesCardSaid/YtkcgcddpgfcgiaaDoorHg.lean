/- PageEncodes: the walk. -/
import Derived.Test.YtkcgcddpgfcgiaaDoorHf
import Derived.Deep.RegionHeld
namespace Go.Proofs.YtkcgcddpgfcgiaaDoor.hg
open Go.ChangeShapes Go.WideShapes Go.ChangeAt Go.RowKit Go.Proofs.YtkcgcddpgfcgiaaDoor.cm Go.Proofs.YtkcgcddpgfcgiaaDoor.cw Go.Proofs.YtkcgcddpgfcgiaaDoor.cp Go.Proofs.YtkcgcddpgfcgiaaDoor.cg Go.Proofs.YtkcgcddpgfcgiaaDoor.ch Go.Proofs.YtkcgcddpgfcgiaaDoor.cx Go.Proofs.YtkcgcddpgfcgiaaDoor.ra Go.Proofs.YtkcgcddpgfcgiaaDoor.rb Go.Proofs.YtkcgcddpgfcgiaaDoor.rc Go.Proofs.YtkcgcddpgfcgiaaDoor.da Go.Proofs.YtkcgcddpgfcgiaaDoor.db Go.Proofs.YtkcgcddpgfcgiaaDoor.dc Go.Proofs.YtkcgcddpgfcgiaaDoor.dd Go.Proofs.YtkcgcddpgfcgiaaDoor.de Go.Proofs.YtkcgcddpgfcgiaaDoor.di Go.Proofs.YtkcgcddpgfcgiaaDoor.df Go.Proofs.YtkcgcddpgfcgiaaDoor.dg Go.Proofs.YtkcgcddpgfcgiaaDoor.dh Go.Proofs.YtkcgcddpgfcgiaaDoor.dj Go.Proofs.YtkcgcddpgfcgiaaDoor.dk Go.Proofs.YtkcgcddpgfcgiaaDoor.dl Go.Proofs.YtkcgcddpgfcgiaaDoor.fa Go.Proofs.YtkcgcddpgfcgiaaDoor.ea Go.Proofs.YtkcgcddpgfcgiaaDoor.eb Go.Proofs.YtkcgcddpgfcgiaaDoor.ec Go.Proofs.YtkcgcddpgfcgiaaDoor.ed Go.Proofs.YtkcgcddpgfcgiaaDoor.fb Go.Proofs.YtkcgcddpgfcgiaaDoor.hc Go.Proofs.YtkcgcddpgfcgiaaDoor.st Go.Proofs.YtkcgcddpgfcgiaaDoor.pa Go.Proofs.YtkcgcddpgfcgiaaDoor.hf

theorem st_tab {l : List (Nat × List Value)} {w W : World} (h : St l w W) (hw : TabOk w) (hz : 0 < w.heap.size) : TabOk W := tab_below hw h.2 hz
set_option maxRecDepth 4000 in
set_option maxHeartbeats 4000000 in
theorem encodes_walk (so : Option Addr) (len cap : Nat) (p : Pg) (id : Int) (w : World) (hw : TabOk w) (hfp : Fits p) (hin : BytesIn so len w) (hl : len ≤ 9223372036854775807) (hc : len ≤ cap) :
    Calls Tryd.prog 3 #[.slice so len cap, .agg p.arr, .int .i64 id] w fun e w' => e = .returned (.bool true) ∧ Below w.heap.size w w' := by
  have hz := tab_size hw
  have HIN := Lib.hid hin
  have HU : Hid True := Lib.hid trivial
  have HFP := Lib.hid hfp
  clear hin hfp
  go_enter Tryd.func3, Tryd.ntmps3
  go_wp2_with (clear HU; refine wp_boxPageW p rfl rfl rfl ?_; intro w0 hP hb0 _; have S0 := Lib.hid ((st_nil (Below.refl w.heap.size w)).first hb0 hP); clear hP hb0)
  go_at_call 6
  refine (awake_any _ (st_tab S0.out hw hz)).mono ?_
  rintro e w1 ⟨rfl, hb1⟩
  have S1 := Lib.hid (S0.out.keep hb1)
  clear hb1 S0
  go_wp2_with fail
  go_at_call 7
  refine (new_is so len cap 100 _ (by decide) _ (bytesIn_below HIN.out S1.out.2) hl hc (by decide)).mono ?_
  rintro e w2 ⟨rfl, hC2, hb2, hz2⟩
  have C2 := Lib.hid hC2
  have hle := S1.out.2.size
  have HN0 : Hid (w1.heap.size ≠ w.heap.size) := Lib.hid (S1.out.ne (w.heap.size, p.vals) (by simp))
  have S2 := Lib.hid (S1.out.keep hb2)
  clear hC2 hb2 hz2 S1 HIN
  generalize w1.heap.size = c at *
  generalize hxp : w.heap.size = xp at *
  have HXP := Lib.hid hxp
  have HZ : Hid (0 < w.heap.size) := Lib.hid (by rw [HXP.out]; exact hz)
  go_wp2_with fail
  go_at_call 9
  refine (next_any c 64 _ C2.out (by decide)).mono ?_
  rintro e w3 ⟨r, rfl, hr0, hr1, _, hC3, hg3⟩
  have hr5 := hr1 (by decide)
  have C3 := Lib.hid hC3
  have S3 := Lib.hid (S2.out.grown hg3 (by rw [HXP.out]; exact hle) (by simp; exact HN0.out))
  clear hC3 hg3 hr1 C2 S2
  go_wp2_with fail
  go_at_call 8
  refine (page_any c r _ C3.out).mono ?_
  rintro e w4 ⟨q, rfl, hq1, hq2, hq3, hq4, hC4, hg4⟩
  have HFQ : Hid (Fits q) := Lib.hid (fits_of_small (small_of_encE (encE_drawn (by omega) (by omega) hq2 hq3 hq4)))
  have C4 := Lib.hid hC4
  have lt4 := cod_lt hC4
  have S4 := Lib.hid (S3.out.grown hg4 (by rw [HXP.out]; exact hle) (by simp; exact HN0.out))
  clear hC4 hg4 hq4 hq1 hq2 hq3 C3 S3
  go_wp2_with (first
    | (have _t := S4.out; refine wp_newPageW rfl rfl ?_; intro w5 hP hb _; have N5 := Lib.hid hP; have M5 := Lib.hid hb; have C5 := Lib.hid (cod_keep C4.out hb); clear hP hb _t C4)
    | (refine wp_storePageW q N5.out (vals_length _) rfl rfl rfl rfl ?_; intro w6 hP hS; have S6 := Lib.hid (S4.out.push M5.out hP hS); have C6 := Lib.hid (hS.cod C5.out lt4); clear hP hS S4 N5 M5 C5))
  generalize w4.heap.size = xq at *
  have HNE : Hid (∀ x ∈ [(xq, q.vals), (xp, p.vals)], c ≠ x.1) := Lib.hid (by have h := HN0.out; simp; omega)
  have HLE : Hid (w.heap.size ≤ c) := Lib.hid (by rw [HXP.out]; exact hle)
  have CA := Lib.hid C6.out.drew
  clear C6 hxp
  refine wp_region_held_drew (S := St [(xq, q.vals), (xp, p.vals)] w) (by kernel_rfl) S6.out.drew (fun hHeld => ?_)
  refine wpAnyH_take (i := 0) (v := (.agg (Pg.arr p))) rfl (by kernel_rfl) (by kernel_rfl) (by kernel_rfl) (fun _ _ _ h => h) (yieldsIf_load_mid (by rfl) 27 _ rfl xp 0 rfl p.vals _ (fun W hSw => RowAt.range (hSw.row (b := xp) (vs := p.vals) (by simp)) 0 (fun j v hv => by rw [Nat.zero_add]; exact hv)) Tryd.underlying27 rfl (by rw [vals_length]; exact info_page)) (by assumption) ?_
  try simp only [Act.put, List.getElem_toArray, List.getElem_cons_zero, List.setIfInBounds_toArray, List.set_cons_zero, List.set_cons_succ]
  refine wpAnyH_take (i := 1) (v := (.agg (Pg.arr q))) rfl (by kernel_rfl) (by kernel_rfl) (by kernel_rfl) (fun _ _ _ h => h) (yieldsIf_load_mid (by rfl) 27 _ rfl xq 0 rfl q.vals _ (fun W hSw => RowAt.range (hSw.row (b := xq) (vs := q.vals) (by simp)) 0 (fun j v hv => by rw [Nat.zero_add]; exact hv)) Tryd.underlying27 rfl (by rw [vals_length]; exact info_page)) (by assumption) ?_
  try simp only [Act.put, List.getElem_toArray, List.getElem_cons_zero, List.getElem_cons_succ, List.setIfInBounds_toArray, List.set_cons_zero, List.set_cons_succ]
  refine wpAnyH_take (i := 2) (v := ?_) rfl (by kernel_rfl) (by kernel_rfl) (by kernel_rfl) (fun _ _ _ h => h) (Or.inl ⟨by rfl, ?_⟩) (by assumption) ?_
  rotate_left
  · (intro W _; go_simp; try with_reducible rfl)
  try simp only [Act.put, List.getElem_toArray, List.getElem_cons_zero, List.getElem_cons_succ, List.setIfInBounds_toArray, List.set_cons_zero, List.set_cons_succ]
  refine wpAnyH_take (i := 3) (v := (.agg (Pg.arr q))) rfl (by kernel_rfl) (by kernel_rfl) (by kernel_rfl) (fun _ _ _ h => h) (yieldsIf_load_mid (by rfl) 27 _ rfl xq 0 rfl q.vals _ (fun W hSw => RowAt.range (hSw.row (b := xq) (vs := q.vals) (by simp)) 0 (fun j v hv => by rw [Nat.zero_add]; exact hv)) Tryd.underlying27 rfl (by rw [vals_length]; exact info_page)) (by assumption) ?_
  try simp only [Act.put, List.getElem_toArray, List.getElem_cons_zero, List.getElem_cons_succ, List.setIfInBounds_toArray, List.set_cons_zero, List.set_cons_succ]
  refine wpAnyH_take (i := 5) (v := ?_) rfl (by kernel_rfl) (by kernel_rfl) (by kernel_rfl) (fun _ _ _ h => h) (Or.inl ⟨by rfl, ?_⟩) (by assumption) ?_
  rotate_left
  · (intro W _; go_simp; try with_reducible rfl)
  try simp only [Act.put, List.getElem_toArray, List.getElem_cons_zero, List.getElem_cons_succ, List.setIfInBounds_toArray, List.set_cons_zero, List.set_cons_succ]
  refine wpAnyH_take (i := 6) (v := (.agg (Pg.arr q))) rfl (by kernel_rfl) (by kernel_rfl) (by kernel_rfl) (fun _ _ _ h => h) (yieldsIf_load_mid (by rfl) 27 _ rfl xq 0 rfl q.vals _ (fun W hSw => RowAt.range (hSw.row (b := xq) (vs := q.vals) (by simp)) 0 (fun j v hv => by rw [Nat.zero_add]; exact hv)) Tryd.underlying27 rfl (by rw [vals_length]; exact info_page)) (by assumption) ?_
  try simp only [Act.put, List.getElem_toArray, List.getElem_cons_zero, List.getElem_cons_succ, List.setIfInBounds_toArray, List.set_cons_zero, List.set_cons_succ]
  refine wpAnyH_take (i := 10) (v := ?_) rfl (by kernel_rfl) (by kernel_rfl) (by kernel_rfl) (fun _ _ _ h => h) (Or.inl ⟨by rfl, ?_⟩) (by assumption) ?_
  rotate_left
  · (intro W _; go_simp; try with_reducible rfl)
  try simp only [Act.put, List.getElem_toArray, List.getElem_cons_zero, List.getElem_cons_succ, List.setIfInBounds_toArray, List.set_cons_zero, List.set_cons_succ]
  refine wpAnyH_ready (rs := [4]) (by kernel_rfl) (by simp) (AllReadyH.cons rfl (fun K hK => ?_) AllReadyH.nil)
  · go_simp
    go_wp2_with (go_at_call 10; (with_reducible refine (odd_any c q _ CA.out HFQ.out).mono ?_); rintro e W5_1 ⟨o1, rfl, hf1, hCo1, hgo1⟩)
    have HF1 := Lib.hid hf1
    have CB := Lib.hid hCo1
    refine hK.out _ _ (hHeld.grown hgo1 HLE.out HNE.out) (fun hH5_2 => ?_)
    clear hK K
    try simp only [Act.put, List.getElem_toArray, List.getElem_cons_zero, List.getElem_cons_succ, List.setIfInBounds_toArray, List.set_cons_zero, List.set_cons_succ]
    refine wpAnyH_ready (rs := [7]) (by kernel_rfl) (by simp) (AllReadyH.cons rfl (fun K hK => ?_) AllReadyH.nil)
    · go_simp
      go_wp2_with (go_at_call 10; (with_reducible refine (odd_any c q _ CB.out HFQ.out).mono ?_); rintro e W5_3 ⟨o2, rfl, hf2, hCo2, hgo2⟩)
      have HF2 := Lib.hid hf2
      refine hK.out _ _ (hH5_2.grown hgo2 HLE.out HNE.out) (fun hH5_4 => ?_)
      clear hK K
      try simp only [Act.put, List.getElem_toArray, List.getElem_cons_zero, List.getElem_cons_succ, List.setIfInBounds_toArray, List.set_cons_zero, List.set_cons_succ]
      refine wpAnyH_ready (rs := [8]) (by kernel_rfl) (by simp) (AllReadyH.cons rfl (fun K hK => ?_) AllReadyH.nil)
      · simp only [List.getElem_toArray, List.getElem_cons_zero, List.getElem_cons_succ]
        rw [if_pos (by rfl)]
        with_reducible refine op_build4 p q o1 o2 (by rfl) ?_ ?_ ?_ ?_ (fun w7 hR7 hb7 => ?_)
        · rfl
        · rfl
        · rfl
        · rfl
        have R7 := Lib.hid hR7
        refine hK.out _ _ (hH5_4.keep hb7) (fun hH5_6 => ?_)
        clear hK K
        simp only [Act.put, List.setIfInBounds_toArray, List.set_cons_zero, List.set_cons_succ]
        refine wpAnyH_take (i := 9) (v := ?_) rfl (by kernel_rfl) (by kernel_rfl) (by kernel_rfl) (fun _ _ _ h => h) (Or.inl ⟨by rfl, ?_⟩) (by assumption) ?_
        rotate_left
        · (intro W _; go_simp; try with_reducible rfl)
        try simp only [Act.put, List.getElem_toArray, List.getElem_cons_zero, List.getElem_cons_succ, List.setIfInBounds_toArray, List.set_cons_zero, List.set_cons_succ]
        refine wpAnyH_done (by kernel_rfl) ?_ _
        have SA := Lib.hid (st_head (hH5_6.add R7.out))
        have F4 := Lib.hid (four_at p q o1 o2 HFP.out HFQ.out HF1.out HF2.out)
        clear hR7 hb7 R7
        generalize four p q o1 o2 = l4 at *
        generalize W5_3.heap.size = bs at *
        go_wp2_with fail
        go_loopw [33] (fun i wr => ∃ j : Nat, j ≤ 4 ∧ i = .int .i64 j ∧ St [(bs, l4)] w wr) (fun i _ => 4 - (intOf i).toNat)
        case atStart => exact ⟨0, by omega, rfl, SA.out⟩
        case round =>
          obtain ⟨j, hj, rfl, h1⟩ := hrel
          have S0 := Lib.hid h1
          clear SA h1
          by_cases hj4 : j < 4
          · obtain ⟨x, hfx, hat⟩ := F4.out j hj4
            have HAT := Lib.hid hat
            have q0 : (0 : Int) ≤ (j : Int) := by omega
            have q1 : (j : Int) < 4 := by omega
            obtain ⟨n, hn⟩ : ∃ n, encE x = n := ⟨_, rfl⟩
            obtain ⟨t, ht⟩ : ∃ t, encA x = t := ⟨_, rfl⟩
            obtain ⟨v, hv⟩ : ∃ v, validB x = v := ⟨_, rfl⟩
            have HE : Hid (∀ W, TabOk W → Calls Tryd.prog 11 #[.agg x.arr] W fun e w' => e = .returned (.tuple #[.string t, .int .i64 n]) ∧ Below W.heap.size W w') := Lib.hid fun W hW => encode_b x t n ht hn W hW hfx
            have HR : Hid (∀ W, Calls Tryd.prog 12 #[.agg x.arr] W fun e w' => e = .returned (.tuple #[.string t, .int .i64 n]) ∧ Below W.heap.size W w') := Lib.hid fun W => refEncode_b x t n ht hn W hfx
            have HV : Hid (∀ W, Calls Tryd.prog 13 #[.agg x.arr] W fun e w' => e = .returned (.bool v) ∧ Below W.heap.size W w') := Lib.hid fun W => valid_b x v hv W hfx
            have HW : Hid (∀ W, Calls Tryd.prog 14 #[.agg x.arr] W fun e w' => e = .returned (.bool v) ∧ Below W.heap.size W w') := Lib.hid fun W => refValid_b x v hv W hfx
            have nt := neL_no (rfl : t = t)
            clear hat hn ht hv hfx
            go_wp2_with (first
              | (refine wp_load (f := j * 34) x.vals _ _ (S0.out.row (b := bs) (vs := l4) (by simp)) Tryd.underlying27 rfl (by rw [vals_length]; exact info_page) HAT.out rfl rfl rfl ?_)
              | (have _t := S0.out; refine wp_newPageW rfl rfl ?_; intro w9 hP hb _; have N9 := Lib.hid hP; have M9 := Lib.hid hb; clear hP hb _t)
              | (refine wp_storePageW x N9.out (vals_length _) rfl rfl rfl rfl ?_; intro w10 hP hS; have S10 := Lib.hid (S0.out.push M9.out hP hS); clear hP hS S0 N9 M9)
              | (refine wp_loadPage x (S10.out.row (vs := x.vals) (List.mem_cons_self ..)) rfl rfl rfl ?_)
              | (go_at_call 11; (with_reducible refine (HE.out _ (st_tab S10.out hw HZ.out)).mono ?_); rintro e w11 ⟨rfl, hb⟩; have S11 := Lib.hid (S10.out.keep hb); clear hb S10)
              | (refine wp_loadPage x (S11.out.row (vs := x.vals) (List.mem_cons_self ..)) rfl rfl rfl ?_)
              | (go_at_call 12; (with_reducible refine (HR.out _).mono ?_); rintro e w12 ⟨rfl, hb⟩; have S12 := Lib.hid (S11.out.keep hb); clear hb S11))
            generalize wr.heap.size = bx at *
            refine wp_region_held_drew (S := St [(bx, x.vals), (bs, l4)] w) (by kernel_rfl) S12.out.drew (fun hHeld => ?_)
            refine wpAnyH_take (i := 0) (v := ?_) rfl (by kernel_rfl) (by kernel_rfl) (by kernel_rfl) (fun _ _ _ h => h) (Or.inl ⟨by rfl, ?_⟩) (by assumption) ?_
            rotate_left
            · (intro W _; go_simp; try with_reducible rfl)
            try simp only [Act.put, List.getElem_toArray, List.getElem_cons_zero, List.setIfInBounds_toArray, List.set_cons_zero, List.set_cons_succ]
            refine wpAnyH_take (i := 1) (v := ?_) rfl (by kernel_rfl) (by kernel_rfl) (by kernel_rfl) (fun _ _ _ h => h) (Or.inl ⟨by rfl, ?_⟩) (by assumption) ?_
            rotate_left
            · (intro W _; go_simp; try with_reducible rfl)
            try simp only [Act.put, List.getElem_toArray, List.getElem_cons_zero, List.getElem_cons_succ, List.setIfInBounds_toArray, List.set_cons_zero, List.set_cons_succ]
            refine wpAnyH_take (i := 2) (v := ?_) rfl (by kernel_rfl) (by kernel_rfl) (by kernel_rfl) (fun _ _ _ h => h) (Or.inl ⟨by rfl, ?_⟩) (by assumption) ?_
            rotate_left
            · (intro W _; go_simp; try with_reducible rfl)
            try simp only [Act.put, List.getElem_toArray, List.getElem_cons_zero, List.getElem_cons_succ, List.setIfInBounds_toArray, List.set_cons_zero, List.set_cons_succ]
            refine wpAnyH_take (i := 3) (v := ?_) rfl (by kernel_rfl) (by kernel_rfl) (by kernel_rfl) (fun _ _ _ h => h) (Or.inl ⟨by rfl, ?_⟩) (by assumption) ?_
            rotate_left
            · (intro W _; go_simp; try with_reducible rfl)
            try simp only [Act.put, List.getElem_toArray, List.getElem_cons_zero, List.getElem_cons_succ, List.setIfInBounds_toArray, List.set_cons_zero, List.set_cons_succ]
            refine wpAnyH_take (i := 4) (v := ?_) rfl (by kernel_rfl) (by kernel_rfl) (by kernel_rfl) (fun _ _ _ h => h) (Or.inl ⟨by rfl, ?_⟩) (by assumption) ?_
            rotate_left
            · (intro W _; go_simp; try with_reducible rfl)
            try simp only [Act.put, List.getElem_toArray, List.getElem_cons_zero, List.getElem_cons_succ, List.setIfInBounds_toArray, List.set_cons_zero, List.set_cons_succ]
            refine wpAnyH_take (i := 5) (v := ?_) rfl (by kernel_rfl) (by kernel_rfl) (by kernel_rfl) (fun _ _ _ h => h) (Or.inl ⟨by rfl, ?_⟩) (by assumption) ?_
            rotate_left
            · (intro W _; go_simp; try with_reducible rfl)
            try simp only [Act.put, List.getElem_toArray, List.getElem_cons_zero, List.getElem_cons_succ, List.setIfInBounds_toArray, List.set_cons_zero, List.set_cons_succ]
            refine wpAnyH_take (i := 6) (v := ?_) rfl (by kernel_rfl) (by kernel_rfl) (by kernel_rfl) (fun _ _ _ h => h) (Or.inl ⟨by rfl, ?_⟩) (by assumption) ?_
            rotate_left
            · (intro W _; go_simp; try with_reducible rfl)
            try simp only [Act.put, List.getElem_toArray, List.getElem_cons_zero, List.getElem_cons_succ, List.setIfInBounds_toArray, List.set_cons_zero, List.set_cons_succ]
            refine wpAnyH_take (i := 7) (v := ?_) rfl (by kernel_rfl) (by kernel_rfl) (by kernel_rfl) (fun _ _ _ h => h) (Or.inl ⟨by rfl, ?_⟩) (by assumption) ?_
            rotate_left
            · (intro W _; go_simp; try with_reducible rfl)
            try simp only [Act.put, List.getElem_toArray, List.getElem_cons_zero, List.getElem_cons_succ, List.setIfInBounds_toArray, List.set_cons_zero, List.set_cons_succ]
            refine wpAnyH_take (i := 8) (v := ?_) rfl (by kernel_rfl) (by kernel_rfl) (by kernel_rfl) (fun _ _ _ h => h) (Or.inl ⟨by rfl, ?_⟩) (by assumption) ?_
            rotate_left
            · (intro W _; go_simp; try with_reducible rfl)
            try simp only [Act.put, List.getElem_toArray, List.getElem_cons_zero, List.getElem_cons_succ, List.setIfInBounds_toArray, List.set_cons_zero, List.set_cons_succ]
            refine wpAnyH_take (i := 9) (v := (.agg (Pg.arr x))) rfl (by kernel_rfl) (by kernel_rfl) (by kernel_rfl) (fun _ _ _ h => h) (yieldsIf_load_mid (by rfl) 27 _ rfl bx 0 rfl x.vals _ (fun W hSw => RowAt.range (hSw.row (b := bx) (vs := x.vals) (by simp)) 0 (fun j v hv => by rw [Nat.zero_add]; exact hv)) Tryd.underlying27 rfl (by rw [vals_length]; exact info_page)) (by assumption) ?_
            try simp only [Act.put, List.getElem_toArray, List.getElem_cons_zero, List.getElem_cons_succ, List.setIfInBounds_toArray, List.set_cons_zero, List.set_cons_succ]
            refine wpAnyH_take (i := 11) (v := (.agg (Pg.arr x))) rfl (by kernel_rfl) (by kernel_rfl) (by kernel_rfl) (fun _ _ _ h => h) (yieldsIf_load_mid (by rfl) 27 _ rfl bx 0 rfl x.vals _ (fun W hSw => RowAt.range (hSw.row (b := bx) (vs := x.vals) (by simp)) 0 (fun j v hv => by rw [Nat.zero_add]; exact hv)) Tryd.underlying27 rfl (by rw [vals_length]; exact info_page)) (by assumption) ?_
            try simp only [Act.put, List.getElem_toArray, List.getElem_cons_zero, List.getElem_cons_succ, List.setIfInBounds_toArray, List.set_cons_zero, List.set_cons_succ]
            refine wpAnyH_ready (rs := [10]) (by kernel_rfl) (by simp) (AllReadyH.cons rfl (fun K hK => ?_) AllReadyH.nil)
            · go_simp
              go_wp2_with (go_at_call 13; (with_reducible refine (HV.out _).mono ?_); rintro e W10_1 ⟨rfl, hb10_3⟩)
              refine hK.out _ _ (hHeld.keep hb10_3) (fun hH10_2 => ?_)
              clear hK K
              try simp only [Act.put, List.getElem_toArray, List.getElem_cons_zero, List.getElem_cons_succ, List.setIfInBounds_toArray, List.set_cons_zero, List.set_cons_succ]
              refine wpAnyH_ready (rs := [12]) (by kernel_rfl) (by simp) (AllReadyH.cons rfl (fun K hK => ?_) AllReadyH.nil)
              · go_simp
                go_wp2_with (go_at_call 14; (with_reducible refine (HW.out _).mono ?_); rintro e W10_4 ⟨rfl, hb10_6⟩)
                refine hK.out _ _ (hH10_2.keep hb10_6) (fun hH10_5 => ?_)
                clear hK K
                try simp only [Act.put, List.getElem_toArray, List.getElem_cons_zero, List.getElem_cons_succ, List.setIfInBounds_toArray, List.set_cons_zero, List.set_cons_succ]
                refine wpAnyH_take (i := 13) (v := ?_) rfl (by kernel_rfl) (by kernel_rfl) (by kernel_rfl) (fun _ _ _ h => h) (Or.inl ⟨by rfl, ?_⟩) (by assumption) ?_
                rotate_left
                · (intro W _; go_simp; try with_reducible rfl)
                try simp only [Act.put, List.getElem_toArray, List.getElem_cons_zero, List.getElem_cons_succ, List.setIfInBounds_toArray, List.set_cons_zero, List.set_cons_succ]
                refine wpAnyH_take (i := 14) (v := ?_) rfl (by kernel_rfl) (by kernel_rfl) (by kernel_rfl) (fun _ _ _ h => h) (Or.inl ⟨by rfl, ?_⟩) (by assumption) ?_
                rotate_left
                · (intro W _; go_simp; try with_reducible rfl)
                try simp only [Act.put, List.getElem_toArray, List.getElem_cons_zero, List.getElem_cons_succ, List.setIfInBounds_toArray, List.set_cons_zero, List.set_cons_succ]
                refine wpAnyH_done (by kernel_rfl) ?_ _
                go_wp2_with fail
                go_roundw
                case rel => exact ⟨j + 1, by omega, by go_num, hH10_5.sub (by simp)⟩
                case measure => simp [intOf]; omega
          · obtain rfl : j = 4 := by omega
            have e1 := page_eql_self (newPg id)
            go_wp2_with (first
              | (go_at_call 15; (with_reducible refine (new_any id _).mono ?_); rintro e w20 ⟨rfl, hb⟩; have S20 := Lib.hid (S0.out.keep hb); clear hb S0)
              | (go_at_call 16; (with_reducible refine (refNew_any id _).mono ?_); rintro e w21 ⟨rfl, hb⟩; have S21 := Lib.hid (S20.out.keep hb); clear hb S20)
              | (go_at_call 17; (with_reducible refine (blank_any _).mono ?_); rintro e w22 ⟨rfl, hb⟩; have S22 := Lib.hid (S21.out.keep hb); clear hb S21)
              | (go_at_call 18; (with_reducible refine (refBlank_any _).mono ?_); rintro e w23 ⟨rfl, hb⟩; have S23 := Lib.hid (S22.out.keep hb); clear hb S22))
            go_ret
            exact ⟨rfl, S23.out.2⟩
end Go.Proofs.YtkcgcddpgfcgiaaDoor.hg
