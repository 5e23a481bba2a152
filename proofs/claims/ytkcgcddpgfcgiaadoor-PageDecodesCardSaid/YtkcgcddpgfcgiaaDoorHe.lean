/- PageDecodes: the walk. -/
import Derived.Test.YtkcgcddpgfcgiaaDoorHd
import Derived.Test.YtkcgcddpgfcgiaaDoorHc
import Derived.Test.YtkcgcddpgfcgiaaDoorSt
import Derived.Deep.RegionWith
namespace Go.Proofs.YtkcgcddpgfcgiaaDoor.he
open Go.ChangeShapes Go.WideShapes Go.ChangeAt Go.RowKit Go.Proofs.YtkcgcddpgfcgiaaDoor.cm Go.Proofs.YtkcgcddpgfcgiaaDoor.cw Go.Proofs.YtkcgcddpgfcgiaaDoor.cp Go.Proofs.YtkcgcddpgfcgiaaDoor.cg Go.Proofs.YtkcgcddpgfcgiaaDoor.ch Go.Proofs.YtkcgcddpgfcgiaaDoor.cx Go.Proofs.YtkcgcddpgfcgiaaDoor.ra Go.Proofs.YtkcgcddpgfcgiaaDoor.rb Go.Proofs.YtkcgcddpgfcgiaaDoor.rc Go.Proofs.YtkcgcddpgfcgiaaDoor.da Go.Proofs.YtkcgcddpgfcgiaaDoor.db Go.Proofs.YtkcgcddpgfcgiaaDoor.dc Go.Proofs.YtkcgcddpgfcgiaaDoor.dd Go.Proofs.YtkcgcddpgfcgiaaDoor.de Go.Proofs.YtkcgcddpgfcgiaaDoor.df Go.Proofs.YtkcgcddpgfcgiaaDoor.dg Go.Proofs.YtkcgcddpgfcgiaaDoor.dh Go.Proofs.YtkcgcddpgfcgiaaDoor.di Go.Proofs.YtkcgcddpgfcgiaaDoor.dj Go.Proofs.YtkcgcddpgfcgiaaDoor.dk Go.Proofs.YtkcgcddpgfcgiaaDoor.dl Go.Proofs.YtkcgcddpgfcgiaaDoor.ea Go.Proofs.YtkcgcddpgfcgiaaDoor.eb Go.Proofs.YtkcgcddpgfcgiaaDoor.ed Go.Proofs.YtkcgcddpgfcgiaaDoor.fa Go.Proofs.YtkcgcddpgfcgiaaDoor.fb Go.Proofs.YtkcgcddpgfcgiaaDoor.hb Go.Proofs.YtkcgcddpgfcgiaaDoor.hc Go.Proofs.YtkcgcddpgfcgiaaDoor.hd Go.Proofs.YtkcgcddpgfcgiaaDoor.st

theorem pick_str (l : List Value) (h : ∀ v ∈ l, ∃ x : ByteArray, v = .string x) (i : Nat) (hi : i < l.length) : ∃ x : ByteArray, l[i]? = some (.string x) := by
  rw [List.getElem?_eq_getElem hi]
  obtain ⟨x, hx⟩ := h _ (List.getElem_mem hi)
  exact ⟨x, by rw [hx]⟩
theorem pick_int (l : List Value) (h : ∀ v ∈ l, ∃ x : Int, v = .int .i64 x) (i : Nat) (hi : i < l.length) : ∃ x : Int, l[i]? = some (.int .i64 x) := by
  rw [List.getElem?_eq_getElem hi]
  obtain ⟨x, hx⟩ := h _ (List.getElem_mem hi)
  exact ⟨x, by rw [hx]⟩
theorem ne4 {b b1 b2 b3 b4 : Nat} {v1 v2 v3 v4 : List Value} (h : b ≠ b1 ∧ b ≠ b2 ∧ b ≠ b3 ∧ b ≠ b4) : ∀ z ∈ [(b1, v1), (b2, v2), (b3, v3), (b4, v4)], b ≠ z.1 := by
  obtain ⟨h1, h2, h3, h4⟩ := h
  simp
  exact ⟨h1, h2, h3, h4⟩
theorem sub_one (a : Nat) (v : List Value) (b : Nat) (x : List Value) (c : Nat) (y : List Value) (d : Nat) (z : List Value) (e : Nat) (u : List Value) : ∀ t ∈ [(b, x), (a, v), (d, z), (e, u)], t ∈ [(a, v), (b, x), (c, y), (d, z), (e, u)] := by simp
theorem sub_two (a : Nat) (v : List Value) (b : Nat) (x : List Value) (c : Nat) (y : List Value) (d : Nat) (z : List Value) (e : Nat) (u : List Value) : ∀ t ∈ [(a, v), (c, y), (d, z), (e, u)], t ∈ [(a, v), (b, x), (c, y), (d, z), (e, u)] := by simp
theorem sub_three (a : Nat) (v : List Value) (b : Nat) (x : List Value) (c : Nat) (y : List Value) (d : Nat) (z : List Value) (e : Nat) (u : List Value) : ∀ t ∈ [(c, y), (a, v), (b, x), (d, z), (e, u)], t ∈ [(a, v), (b, x), (c, y), (d, z), (e, u)] := by simp
theorem sub_four (a : Nat) (v : List Value) (b : Nat) (x : List Value) (c : Nat) (y : List Value) (d : Nat) (z : List Value) (e : Nat) (u : List Value) : ∀ t ∈ [(d, z), (e, u)], t ∈ [(a, v), (b, x), (c, y), (d, z), (e, u)] := by simp
theorem refIdentify_b (s : ByteArray) (id : Int) (p : Pg) (n : Int) (hp : idnP s id = p) (hn : idnE s id = n) (w : World) (hw : TabOk w) :
    Calls Tryd.prog 24 #[.string s, .int .i64 id] w fun e w' => e = .returned (.tuple #[.agg p.arr, .int .i64 n]) ∧ Below w.heap.size w w' := by
  have := refIdentify_any s id w hw
  unfold idnT at this
  rwa [hp, hn] at this
theorem st_tab {l : List (Nat × List Value)} {w W : World} (h : St l w W) (hw : TabOk w) (hz : 0 < w.heap.size) : TabOk W := tab_below hw h.2 hz

theorem decodes_long (so : Option Addr) (len cap : Nat) (s : ByteArray) (id : Int) (w : World) (hw : TabOk w) (hs : 600 < s.size) :
    Calls Tryd.prog 4 #[.slice so len cap, .string s, .int .i64 id] w fun e w' => e = .returned (.bool true) ∧ Below w.heap.size w w' := by
  have q0 : (600 : Int) < (s.size : Int) := by omega
  go_enter Tryd.func4, Tryd.ntmps4
  go_wp2_with (go_at_call 6; refine (awake_any _ hw).mono ?_; rintro e w1 ⟨rfl, hb1⟩)
  go_ret
  exact ⟨rfl, hb1⟩

set_option maxRecDepth 4000 in
set_option maxHeartbeats 2000000 in
theorem decodes_walk (so : Option Addr) (len cap : Nat) (s : ByteArray) (id : Int) (w : World) (hw : TabOk w) (hs : ¬ 600 < s.size) (hin : BytesIn so len w) (hl : len ≤ 9223372036854775807) (hc : len ≤ cap) :
    Calls Tryd.prog 4 #[.slice so len cap, .string s, .int .i64 id] w fun e w' => e = .returned (.bool true) ∧ Below w.heap.size w w' := by
  have hz := tab_size hw
  have HIN := Lib.hid hin
  have q6 : decide ((600 : Int) < (s.size : Int)) = false := by simp; omega
  clear hin hs
  go_enter Tryd.func4, Tryd.ntmps4
  go_wp2_with fail
  go_at_call 6
  refine (awake_any _ hw).mono ?_
  rintro e w1 ⟨rfl, hb1⟩
  have B1 := Lib.hid hb1
  have hle := hb1.size
  clear hb1
  go_wp2_with fail
  go_at_call 7
  refine (new_is so len cap 160 _ (by decide) _ (bytesIn_below HIN.out B1.out) hl hc (by decide)).mono ?_
  rintro e w2 ⟨rfl, hC2, hb2, hz2⟩
  have C2 := Lib.hid hC2
  have B2 := Lib.hid (B1.out.trans (hb2.mono B1.out.size))
  clear hC2 hb2 hz2 B1 HIN q6
  generalize w1.heap.size = c at C2 hle
  go_wp2_with fail
  go_at_call 9
  refine (next_any c 5 _ C2.out (by decide)).mono ?_
  rintro e w3 ⟨r, rfl, hr0, hr1, _, hC3, hg3⟩
  have hr5 := hr1 (by decide)
  have C3 := Lib.hid hC3
  have B3 := Lib.hid (B2.out.grown hg3 B2.out.size (fun k e => by injection e with e; omega))
  clear hC3 hg3 hr1 C2 B2
  go_wp2_with fail
  go_at_call 8
  refine (page_any c r _ C3.out).mono ?_
  rintro e w4 ⟨q, rfl, hq1, hq2, hq3, hq4, hC4, hg4⟩
  have HEQ : Hid (encE q = 0) := Lib.hid (encE_drawn (by omega) (by omega) hq2 hq3 hq4)
  have zq := encS_size (small_of_encE HEQ.out)
  have C4 := Lib.hid hC4
  have lt4 := cod_lt hC4
  have S4 := Lib.hid (st_nil (B3.out.grown hg4 B3.out.size (fun k e => by injection e with e; omega)))
  have zb := zeroS_size 256
  clear hC4 hg4 hq4 hq1 hq2 hq3 C3 B3
  go_wp2_with (first
    | (have _t := S4.out; refine wp_newPageW rfl rfl ?_; intro w5 hP hb _; have N5 := Lib.hid hP; have M5 := Lib.hid hb; have C5 := Lib.hid (cod_keep C4.out hb); clear hP hb _t C4)
    | (refine wp_storePageW q N5.out (vals_length _) rfl rfl rfl rfl ?_; intro w6 hP hS; have S6 := Lib.hid (S4.out.push M5.out hP hS); have C6 := Lib.hid (hS.cod C5.out lt4); clear hP hS S4 N5 M5 C5)
    | (refine wp_loadPage q (S6.out.row (b := w4.heap.size) (vs := q.vals) (by simp)) rfl rfl rfl ?_)
    | (go_at_call 12; (with_reducible refine (refEncode_ok q HEQ.out _).mono ?_); rintro e w7 ⟨rfl, hb⟩; have S7 := Lib.hid (S6.out.keep hb); have C7 := Lib.hid (cod_keep C6.out hb); clear hb S6 C6)
    | (go_at_call 19; (with_reducible refine (spoilt_any c (encS q) _ C7.out (by omega)).mono ?_); rintro e w8 ⟨x1, rfl, hC, hg⟩; have S8 := Lib.hid (S7.out.grown hg hle (fun x hx => (by simp at hx; subst hx; show c ≠ w4.heap.size; omega))); have C8 := Lib.hid hC; clear hC hg S7 C7)
    | (go_at_call 18; (with_reducible refine (refBlank_any _).mono ?_); rintro e w9 ⟨rfl, hb⟩; have S9 := Lib.hid (S8.out.keep hb); have C9 := Lib.hid (cod_keep C8.out hb); clear hb S8 C8)
    | (go_at_call 19; (with_reducible refine (spoilt_any c (zeroS 256) _ C9.out (by omega)).mono ?_); rintro e w10 ⟨x2, rfl, hC, hg⟩; have S10 := Lib.hid (S9.out.grown hg hle (fun x hx => (by simp at hx; subst hx; show c ≠ w4.heap.size; omega))); have C10 := Lib.hid hC; clear hC hg S9 C9)
    | (go_at_call 18; (with_reducible refine (refBlank_any _).mono ?_); rintro e w11 ⟨rfl, hb⟩; have S11 := Lib.hid (S10.out.keep hb); have C11 := Lib.hid (cod_keep C10.out hb); clear hb S10 C10)
    | (go_at_call 20; (with_reducible refine (bytes_any c _ C11.out).mono ?_); rintro e w12 ⟨x3, rfl, hC, hg⟩; have S12 := Lib.hid (S11.out.grown hg hle (fun x hx => (by simp at hx; subst hx; show c ≠ w4.heap.size; omega))); have C12 := Lib.hid hC; clear hC hg S11 C11))
  go_at_call 9
  refine (next_any c 257 _ C12.out (by decide)).mono ?_
  rintro e w13 ⟨k0, rfl, hk0, hk1, _, hC, hg⟩
  have hk2 := hk1 (by decide)
  obtain ⟨k, rfl⟩ := Int.eq_ofNat_of_zero_le hk0
  have S13 := Lib.hid (S12.out.grown hg hle (fun x hx => (by simp at hx; subst hx; show c ≠ w4.heap.size; omega)))
  have C13 := Lib.hid hC
  have s1 := slice_to (encS q) k k rfl (by omega)
  have q0 : (0 : Int) ≤ (k : Int) := by omega
  have q1 : (k : Int) ≤ 256 := by omega
  clear hC hg S12 C12 hk1
  go_wp2_with fail
  have hR : RowAt w13.heap.size [.string s, .string (encS q), .string x1, .string x2, .string (zeroS 256), .string x3, .string ((encS q).extract 0 k)] (w13.alloc (.cells #[.string s, .string (encS q), .string x1, .string x2, .string (zeroS 256), .string x3, .string ((encS q).extract 0 k)] 9)) := RowAt.newA #[.string s, .string (encS q), .string x1, .string x2, .string (zeroS 256), .string x3, .string ((encS q).extract 0 k)] w13 9
  have hb := (Below.refl w13.heap.size w13).alloc (Nat.le_refl _) (.cells #[.string s, .string (encS q), .string x1, .string x2, .string (zeroS 256), .string x3, .string ((encS q).extract 0 k)] 9)
  have S14 := Lib.hid (S13.out.first hb hR)
  have C14 := Lib.hid (cod_keep C13.out hb)
  have hnb : c ≠ w13.heap.size := by have := cod_lt C13.out; omega
  have hnq : c ≠ w4.heap.size := by omega
  have h7 : ∀ v ∈ [Value.string s, .string (encS q), .string x1, .string x2, .string (zeroS 256), .string x3, .string ((encS q).extract 0 k)], ∃ x : ByteArray, v = .string x := by simp
  have hl7 : [Value.string s, .string (encS q), .string x1, .string x2, .string (zeroS 256), .string x3, .string ((encS q).extract 0 k)].length = 7 := rfl
  clear hR hb S13 C13 s1 zq zb HEQ hk0 q0 q1
  generalize w13.alloc (.cells #[.string s, .string (encS q), .string x1, .string x2, .string (zeroS 256), .string x3, .string ((encS q).extract 0 k)] 9) = W0 at *
  generalize [Value.string s, .string (encS q), .string x1, .string x2, .string (zeroS 256), .string x3, .string ((encS q).extract 0 k)] = l7 at *
  generalize w13.heap.size = bs at *
  generalize w4.heap.size = bq at *
  have H7 := Lib.hid h7
  have HL7 := Lib.hid hl7
  have HNE : Hid (∀ x ∈ [(bs, l7), (bq, q.vals)], c ≠ x.1) := Lib.hid (by simp; exact ⟨hnb, hnq⟩)
  have HLT : Hid (w.heap.size ≤ c) := Lib.hid hle
  clear h7 hl7 hnb hnq
  go_loopw [57] (fun i wr => ∃ j : Nat, j ≤ 7 ∧ i = .int .i64 j ∧ St [(bs, l7), (bq, q.vals)] w wr ∧ Cod c wr) (fun i _ => 7 - (intOf i).toNat)
  case atStart => exact ⟨0, by omega, rfl, S14.out, C14.out⟩
  case round =>
    obtain ⟨j, hj, rfl, h1, h2⟩ := hrel
    have S0 := Lib.hid h1
    have C0 := Lib.hid h2
    clear S14 C14 h1 h2
    by_cases hj7 : j < 7
    · obtain ⟨x, hx⟩ := pick_str l7 H7.out j (by rw [HL7.out]; exact hj7)
      have hcell := (S0.out.row (b := bs) (vs := l7) (by simp)).cells j _ hx
      have q0 : (0 : Int) ≤ (j : Int) := by omega
      have q1 : (j : Int) < 7 := by omega
      obtain ⟨n, hn⟩ : ∃ n, decE x = n := ⟨_, rfl⟩
      obtain ⟨p, hp⟩ : ∃ p, decP x = p := ⟨_, rfl⟩
      have HD : Hid (∀ W, TabOk W → Calls Tryd.prog 21 #[.string x] W fun e w' => e = .returned (.tuple #[.agg p.arr, .int .i64 n]) ∧ Below W.heap.size W w') := Lib.hid fun W hW => decode_b x p n hp hn W hW
      have HR : Hid (∀ W, TabOk W → Calls Tryd.prog 22 #[.string x] W fun e w' => e = .returned (.tuple #[.agg p.arr, .int .i64 n]) ∧ Below W.heap.size W w') := Lib.hid fun W hW => refDecode_b x p n hp hn W hW
      have pn := page_neq_self p
      clear hn hp hx
      go_wp2_with (first
        | (go_at_call 21; (with_reducible refine (HD.out _ (st_tab S0.out hw hz)).mono ?_); rintro e w15 ⟨rfl, hb⟩; have S15 := Lib.hid (S0.out.keep hb); have C15 := Lib.hid (cod_keep C0.out hb); clear hb S0 C0 hcell)
        | (have NE15 := Lib.hid S15.out.ne; have LE15 := Lib.hid S15.out.2.size; have _t := S15.out; have lt15 := cod_lt C15.out; refine wp_newPageW rfl rfl ?_; intro w16 hP hb _; have N16 := Lib.hid hP; have M16 := Lib.hid hb; have C16 := Lib.hid (cod_keep C15.out hb); clear hP hb _t C15)
        | (refine wp_storePageW p N16.out (vals_length _) rfl rfl rfl rfl ?_; intro w17 hP hS; have S17 := Lib.hid (S15.out.push M16.out hP hS); have C17 := Lib.hid (hS.cod C16.out lt15); clear hP hS S15 N16 M16 C16)
        | (go_at_call 22; (with_reducible refine (HR.out _ (st_tab S17.out hw hz)).mono ?_); rintro e w18 ⟨rfl, hb⟩; have S18 := Lib.hid (S17.out.keep hb); have C18 := Lib.hid (cod_keep C17.out hb); clear hb S17 C17)
        | (have NE18 := Lib.hid S18.out.ne; have LE18 := Lib.hid S18.out.2.size; have _t := S18.out; have lt18 := cod_lt C18.out; refine wp_newPageW rfl rfl ?_; intro w19 hP hb _; have N19 := Lib.hid hP; have M19 := Lib.hid hb; have C19 := Lib.hid (cod_keep C18.out hb); clear hP hb _t C18)
        | (refine wp_storePageW p N19.out (vals_length _) rfl rfl rfl rfl ?_; intro w20 hP hS; have S20 := Lib.hid (S18.out.push M19.out hP hS); have C20 := Lib.hid (hS.cod C19.out lt18); clear hP hS S18 N19 M19 C19)
        | (refine wp_loadPage p (S20.out.row (b := w15.heap.size) (vs := p.vals) (by simp)) rfl rfl rfl ?_)
        | (refine wp_loadPage p (S20.out.row (b := w18.heap.size) (vs := p.vals) (by simp)) rfl rfl rfl ?_))
      have HNE2 : Hid (∀ x ∈ [(w18.heap.size, p.vals), (w15.heap.size, p.vals), (bs, l7), (bq, q.vals)], c ≠ x.1) := Lib.hid (by have h := HNE.out; simp at h ⊢; omega)
      have i0 := PgAt.idAt (S20.out.row (b := bq) (vs := q.vals) (by simp))
      generalize w15.heap.size = b1 at *
      generalize w18.heap.size = b2 at *
      go_region_with (go_at_call 9; (with_reducible refine (next_any c 5 _ (by exact C20.out.drew) (by decide)).mono ?_); rintro e w21 ⟨r2, rfl, _, _, _, hC, hg⟩; have S21 := Lib.hid (S20.out.drew.grown hg HLT.out HNE2.out); have C21 := Lib.hid hC; have i1 := PgAt.idAt (S21.out.row (b := bq) (vs := q.vals) (by simp)); clear hC hg)
      all_goals
        clear i0
        go_wp2_with fail
        simp only [List.getElem_toArray, List.getElem_cons_zero, List.getElem_cons_succ, Act.put, List.setIfInBounds_toArray, List.set_cons_succ, List.set_cons_zero]
        have NE21 := Lib.hid S21.out.ne
        have hR : RowAt w21.heap.size [.int .i64 id, .int .i64 q.id, .int .i64 r2] (w21.alloc (.cells #[.int .i64 id, .int .i64 q.id, .int .i64 r2] 3)) := RowAt.newA #[.int .i64 id, .int .i64 q.id, .int .i64 r2] w21 3
        have hb := (Below.refl w21.heap.size w21).alloc (Nat.le_refl _) (.cells #[.int .i64 id, .int .i64 q.id, .int .i64 r2] 3)
        have S22 := Lib.hid (S21.out.first hb hR)
        have C22 := Lib.hid (cod_keep C21.out hb)
        have hnk : c ≠ w21.heap.size := by have := cod_lt C21.out; omega
        have h3 : ∀ v ∈ [Value.int .i64 id, .int .i64 q.id, .int .i64 r2], ∃ x : Int, v = .int .i64 x := by simp
        have hl3 : [Value.int .i64 id, .int .i64 q.id, .int .i64 r2].length = 3 := rfl
        clear hR hb S20 C20 S21 C21 i1
        generalize w21.alloc (.cells #[.int .i64 id, .int .i64 q.id, .int .i64 r2] 3) = W1 at *
        generalize [Value.int .i64 id, .int .i64 q.id, .int .i64 r2] = l3 at *
        generalize w21.heap.size = bk at *
        have HK3 := Lib.hid h3
        have HL3 := Lib.hid hl3
        have N1 : Hid (b1 ≠ b2 ∧ b1 ≠ bk ∧ b1 ≠ bs ∧ b1 ≠ bq) := Lib.hid (by have h1 := NE15.out; have h2 := NE18.out; have h3 := NE21.out; simp at h1 h2 h3; omega)
        have N2 : Hid (b2 ≠ b1 ∧ b2 ≠ bk ∧ b2 ≠ bs ∧ b2 ≠ bq) := Lib.hid (by have h1 := NE15.out; have h2 := NE18.out; have h3 := NE21.out; simp at h1 h2 h3; omega)
        have K1 : Hid (c < b1 ∧ c < b2) := Lib.hid ⟨lt15, lt18⟩
        clear h3 hl3 hnk NE15 NE18 NE21 lt15 lt18
        go_loopw [86] (fun i wr => ∃ j2 : Nat, j2 ≤ 3 ∧ i = .int .i64 j2 ∧ (∃ y1 y2 : Pg, St [(bk, l3), (b2, y2.vals), (b1, y1.vals), (bs, l7), (bq, q.vals)] w wr) ∧ Cod c wr) (fun i _ => 3 - (intOf i).toNat)
        case atStart => exact ⟨0, by omega, rfl, ⟨p, p, S22.out⟩, C22.out⟩
        case round =>
          obtain ⟨j2, hj2, rfl, ⟨y1, y2, h1⟩, h2⟩ := hrel
          have S30 := Lib.hid h1
          have C30 := Lib.hid h2
          clear S22 C22 h1 h2
          by_cases hj3 : j2 < 3
          · obtain ⟨m, hm⟩ := pick_int l3 HK3.out j2 (by rw [HL3.out]; exact hj3)
            have hcell2 := (S30.out.row (b := bk) (vs := l3) (by simp)).cells j2 _ hm
            have q2 : (0 : Int) ≤ (j2 : Int) := by omega
            have q3 : (j2 : Int) < 3 := by omega
            obtain ⟨n2, hn⟩ : ∃ n, idnE x m = n := ⟨_, rfl⟩
            obtain ⟨y, hp⟩ : ∃ p, idnP x m = p := ⟨_, rfl⟩
            have HI : Hid (∀ W, TabOk W → Calls Tryd.prog 23 #[.string x, .int .i64 m] W fun e w' => e = .returned (.tuple #[.agg y.arr, .int .i64 n2]) ∧ Below W.heap.size W w') := Lib.hid fun W hW => identify_b x m y n2 hp hn W hW
            have HJ : Hid (∀ W, TabOk W → Calls Tryd.prog 24 #[.string x, .int .i64 m] W fun e w' => e = .returned (.tuple #[.agg y.arr, .int .i64 n2]) ∧ Below W.heap.size W w') := Lib.hid fun W hW => refIdentify_b x m y n2 hp hn W hW
            have pn2 := page_neq_self y
            clear hn hp hm
            go_wp2_with (first
              | (go_at_call 23; (with_reducible refine (HI.out _ (st_tab S30.out hw hz)).mono ?_); rintro e w31 ⟨rfl, hb⟩; have S31 := Lib.hid (S30.out.keep hb); have C31 := Lib.hid (cod_keep C30.out hb); clear hb S30 C30 hcell2)
              | (refine wp_storePageW y (S31.out.row (b := b1) (vs := y1.vals) (by simp)) (vals_length _) rfl rfl rfl rfl ?_; intro w32 hP hS; have S32 := Lib.hid (((S31.out.sub (sub_one bk l3 b2 y2.vals b1 y1.vals bs l7 bq q.vals)).stored (ne4 N1.out) LE15.out hS).add hP); have C32 := Lib.hid (hS.cod C31.out K1.out.1); clear hP hS S31 C31)
              | (go_at_call 24; (with_reducible refine (HJ.out _ (st_tab S32.out hw hz)).mono ?_); rintro e w33 ⟨rfl, hb⟩; have S33 := Lib.hid (S32.out.keep hb); have C33 := Lib.hid (cod_keep C32.out hb); clear hb S32 C32)
              | (refine wp_storePageW y (S33.out.row (b := b2) (vs := y2.vals) (by simp)) (vals_length _) rfl rfl rfl rfl ?_; intro w34 hP hS; have S34 := Lib.hid (((S33.out.sub (sub_two b1 y.vals b2 y2.vals bk l3 bs l7 bq q.vals)).stored (ne4 N2.out) LE18.out hS).add hP); have C34 := Lib.hid (hS.cod C33.out K1.out.2); clear hP hS S33 C33)
              | (refine wp_loadPage y (S34.out.row (b := b1) (vs := y.vals) (by simp)) rfl rfl rfl ?_)
              | (refine wp_loadPage y (S34.out.row (b := b2) (vs := y.vals) (by simp)) rfl rfl rfl ?_))
            go_roundw
            case rel => exact ⟨j2 + 1, by omega, by go_num, ⟨y, y, S34.out.sub (sub_three _ _ _ _ _ _ _ _ _ _)⟩, C34.out⟩
            case measure => simp [intOf]; omega
          · obtain rfl : j2 = 3 := by omega
            go_wp2_with fail
            go_roundw
            case rel => exact ⟨j + 1, by omega, by go_num, S30.out.sub (sub_four _ _ _ _ _ _ _ _ _ _), C30.out⟩
            case measure => simp [intOf]; omega
    · obtain rfl : j = 7 := by omega
      go_wp2_with fail
      go_ret
      exact ⟨rfl, S0.out.2⟩
theorem decodes_any (so : Option Addr) (len cap : Nat) (s : ByteArray) (id : Int) (w : World) (hw : TabOk w) (hin : BytesIn so len w) (hl : len ≤ 9223372036854775807) (hc : len ≤ cap) :
    Calls Tryd.prog 4 #[.slice so len cap, .string s, .int .i64 id] w fun e w' => e = .returned (.bool true) ∧ Below w.heap.size w w' := by
  by_cases h : 600 < s.size
  · exact decodes_long so len cap s id w hw h
  · exact decodes_walk so len cap s id w hw h hin hl hc
end Go.Proofs.YtkcgcddpgfcgiaaDoor.he
