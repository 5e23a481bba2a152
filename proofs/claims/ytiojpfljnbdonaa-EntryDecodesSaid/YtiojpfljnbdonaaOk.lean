/- Readers of cells, changes and entries. -/
import Derived.Test.YtiojpfljnbdonaaOj
namespace Go.Proofs.Ytiojpfljnbdonaa.ok
open Go.ChangeShapes Go.WideShapes Go.ChangeAt Go.RowKit Go.Proofs.Ytiojpfljnbdonaa.cp Go.Proofs.Ytiojpfljnbdonaa.cg Go.Proofs.Ytiojpfljnbdonaa.ch Go.Proofs.Ytiojpfljnbdonaa.cx Go.Proofs.Ytiojpfljnbdonaa.ra Go.Proofs.Ytiojpfljnbdonaa.rb Go.Proofs.Ytiojpfljnbdonaa.rc Go.Proofs.Ytiojpfljnbdonaa.da Go.Proofs.Ytiojpfljnbdonaa.ea Go.Proofs.Ytiojpfljnbdonaa.eb Go.Proofs.Ytiojpfljnbdonaa.ed Go.Proofs.Ytiojpfljnbdonaa.fb Go.Proofs.Ytiojpfljnbdonaa.ka Go.Proofs.Ytiojpfljnbdonaa.kb Go.Proofs.Ytiojpfljnbdonaa.kg Go.Proofs.Ytiojpfljnbdonaa.kj Go.Proofs.Ytiojpfljnbdonaa.oa Go.Proofs.Ytiojpfljnbdonaa.os Go.Proofs.Ytiojpfljnbdonaa.oj
set_option linter.unusedSimpArgs false

theorem numR_pos (s : ByteArray) (k : Nat) (r : RS) (h : r.pos ≤ s.size) : (numR s k r).2.pos ≤ s.size := by
  unfold numR
  split
  · split
    · assumption
    · exact h
  · exact h
theorem txtR_pos (s : ByteArray) (n : Nat) (r : RS) (h : r.pos ≤ s.size) : (txtR s n r).2.pos ≤ s.size := by
  unfold txtR
  split
  · split
    · assumption
    · exact h
  · exact h
theorem celR_pos (s : ByteArray) (r : RS) (h : r.pos ≤ s.size) : (celR s r).2.pos ≤ s.size := by
  have h1 := numR_pos s 1 r h
  unfold celR
  simp only
  split
  · split
    · exact h1
    · split
      · exact h1
      · exact txtR_pos s _ _ h1
  · exact h1
theorem numR_nat (s : ByteArray) (k : Nat) (hk : k < 8) (r : RS) : ∃ n : Nat, (numR s k r).1 = (n : Int) ∧ n < 2 ^ (8 * k) := by
  unfold numR
  split
  · split
    · exact ⟨uget s r.pos k, getN_small s r.pos k hk, uget_lt s r.pos k⟩
    · exact ⟨0, rfl, Nat.two_pow_pos _⟩
  · exact ⟨0, rfl, Nat.two_pow_pos _⟩
theorem txtR_size (s : ByteArray) (n : Nat) (r : RS) : (txtR s n r).1.size ≤ s.size := by
  unfold txtR
  split
  · split
    · rw [ByteArray.size_extract]; omega
    · exact Nat.zero_le _
  · exact Nat.zero_le _
theorem celR_size (s : ByteArray) (r : RS) : (celR s r).1.data.size ≤ s.size := by
  unfold celR
  simp only
  split
  · split
    · exact Nat.zero_le _
    · split
      · exact Nat.zero_le _
      · exact txtR_size s _ _
  · exact Nat.zero_le _
def chgR (s : ByteArray) (r : RS) : Chg × RS :=
  let a := numR s 4 r
  let b := numR s 1 a.2
  let c := celR s b.2
  let d := celR s c.2
  (⟨a.1, b.1, c.1, d.1⟩, d.2)
def entR (s : ByteArray) (r : RS) : Ent × RS :=
  let a1 := numR s 8 r
  let a2 := numR s 1 a1.2
  let a3 := numR s 4 a2.2
  let a4 := numR s 8 a3.2
  let a5 := numR s 8 a4.2
  let a6 := numR s 8 a5.2
  let c := chgR s a6.2
  let n := numR s 4 c.2
  let t := txtR s n.1.toNat n.2
  (⟨a1.1, a2.1, a3.1, a4.1, a5.1, a6.1, c.1, t.1⟩, t.2)
theorem chgR_pos (s : ByteArray) (r : RS) (h : r.pos ≤ s.size) : (chgR s r).2.pos ≤ s.size := celR_pos s _ (celR_pos s _ (numR_pos s _ _ (numR_pos s _ _ h)))
/-- What a reading function does, from any world in which its reader stands so. -/
abbrev ReadC (fn : Nat) (args : Array Value) (b : Nat) (s : ByteArray) (r : RS) (v : Value) (r' : RS) : Prop := ∀ W : World, RowAt b (rdVals s r) W → Calls Try.prog fn args W (Reads b s v r' W)
theorem zero_cell (W : World) : (zeroValue 24).run Try.prog W = .ok (.agg noCell.vals.toArray) W := by kernel_rfl
theorem grown_store {w W W' : World} {p b : Nat} (h : w.grownBy W (some p)) (hs : StoredAt b W W') (hb : w.heap.size ≤ b) : w.grownBy W' (some p) := storedAt_since hs h hb
theorem num1 (b : Nat) (s : ByteArray) (r : RS) (hs : s.size ≤ 900000) (hp : r.pos ≤ s.size) : ReadC 54 #[.pointer (some ⟨b, 0, none⟩), .int .i64 1] b s r (.int .i64 (numR s 1 r).1) (numR s 1 r).2 := fun W hr => number_any b 1 1 rfl s r W hr hs hp (by decide) (by decide)
theorem num4 (b : Nat) (s : ByteArray) (r : RS) (hs : s.size ≤ 900000) (hp : r.pos ≤ s.size) : ReadC 54 #[.pointer (some ⟨b, 0, none⟩), .int .i64 4] b s r (.int .i64 (numR s 4 r).1) (numR s 4 r).2 := fun W hr => number_any b 4 4 rfl s r W hr hs hp (by decide) (by decide)
theorem num8 (b : Nat) (s : ByteArray) (r : RS) (hs : s.size ≤ 900000) (hp : r.pos ≤ s.size) : ReadC 54 #[.pointer (some ⟨b, 0, none⟩), .int .i64 8] b s r (.int .i64 (numR s 8 r).1) (numR s 8 r).2 := fun W hr => number_any b 8 8 rfl s r W hr hs hp (by decide) (by decide)
theorem cnum1 (b : Nat) (s : ByteArray) (r : RS) (hs : s.size ≤ 900000) (hp : r.pos ≤ s.size) : ReadC 36 #[.pointer (some ⟨b, 0, none⟩), .int .i64 1] b s r (.int .i64 (numR s 1 r).1) (numR s 1 r).2 := fun W hr => cnumber_any b 1 1 rfl s r W hr hs hp (by decide) (by decide)
theorem cnum4 (b : Nat) (s : ByteArray) (r : RS) (hs : s.size ≤ 900000) (hp : r.pos ≤ s.size) : ReadC 36 #[.pointer (some ⟨b, 0, none⟩), .int .i64 4] b s r (.int .i64 (numR s 4 r).1) (numR s 4 r).2 := fun W hr => cnumber_any b 4 4 rfl s r W hr hs hp (by decide) (by decide)
theorem cnum8 (b : Nat) (s : ByteArray) (r : RS) (hs : s.size ≤ 900000) (hp : r.pos ≤ s.size) : ReadC 36 #[.pointer (some ⟨b, 0, none⟩), .int .i64 8] b s r (.int .i64 (numR s 8 r).1) (numR s 8 r).2 := fun W hr => cnumber_any b 8 8 rfl s r W hr hs hp (by decide) (by decide)
theorem txt (b : Nat) (n : Nat) (s : ByteArray) (r : RS) (hs : s.size ≤ 900000) (hp : r.pos ≤ s.size) (hn : n < 4294967296) : ReadC 56 #[.pointer (some ⟨b, 0, none⟩), .int .i64 (n : Int)] b s r (.string (txtR s n r).1) (txtR s n r).2 := fun W hr => text_any b n s r W hr hs hp (by omega)
theorem ctxt (b : Nat) (n : Nat) (s : ByteArray) (r : RS) (hs : s.size ≤ 900000) (hp : r.pos ≤ s.size) (hn : n < 4294967296) : ReadC 38 #[.pointer (some ⟨b, 0, none⟩), .int .i64 (n : Int)] b s r (.string (txtR s n r).1) (txtR s n r).2 := fun W hr => cbytes_any b n s r W hr hs hp (by omega)
set_option maxRecDepth 4000 in
set_option maxHeartbeats 1000000 in
theorem cel_any (b : Nat) (s : ByteArray) (r : RS) (hs : s.size ≤ 900000) (hp : r.pos ≤ s.size) : ReadC 65 #[.pointer (some ⟨b, 0, none⟩)] b s r (.agg #[.bool (celR s r).1.set, .string (celR s r).1.data]) (celR s r).2 := by
  intro w hr
  have hN := num1 b s r hs hp
  have hp1 := numR_pos s 1 r hp
  obtain ⟨v, hv, hv2⟩ := numR_nat s 1 (by decide) r
  have hT := txt b v s (numR s 1 r).2 hs hp1 (by omega)
  have hC : celR s r = if (numR s 1 r).2.err = 0 then (if (v : Int) = 255 then (noCell, (numR s 1 r).2) else if 12 < (v : Int) then (noCell, ⟨(numR s 1 r).2.pos, 4⟩) else (⟨true, (txtR s v (numR s 1 r).2).1⟩, (txtR s v (numR s 1 r).2).2)) else (noCell, (numR s 1 r).2) := by
    unfold celR
    simp only [hv, Int.toNat_natCast]
  rw [hC]
  rw [hv] at hN
  generalize (numR s 1 r).2 = r1 at hN hT hC hp1 ⊢
  clear hC hv
  obtain ⟨p1, e1⟩ := r1
  simp only at hp1 ⊢
  have hlt := hr.lt
  have HR := Lib.hid hr
  have HN := Lib.hid hN
  have HU : Hid True := Lib.hid trivial
  clear hr hN
  by_cases h0 : e1 = 0
  rotate_left
  · rw [if_neg h0]
    have q0 : (e1 != 0) = true := by simpa using h0
    clear h0 hT
    go_enter Try.func65, Try.ntmps65
    go_wp2_with (first
      | (clear HU; refine wp_newW noCell.vals _ zero_cell rfl rfl ?_; intro w0 hC hb0 z0; have C0 := Lib.hid hC; have R0 := Lib.hid (RowAt.keep HR.out hb0); have G0 := Lib.hid (below_grownBy hb0 (some b)); clear hC hb0)
      | (go_at_call 54; have hq := R0.out; clear hq; (with_reducible refine (HN.out _ R0.out).mono ?_); rintro e1 w1 ⟨rfl, hR, hg⟩; have R1 := Lib.hid hR; have C1 := Lib.hid (RowAt.grown C0.out hg (row_ne hlt)); have G1 := Lib.hid (grownBy_trans G0.out hg); obtain ⟨a0, a1, a2⟩ := rd_all hR; simp only at a1 a2; clear hR hg R0 C0 G0)
      | (refine wp_storeCellW noCell C1.out (show 0 + 2 ≤ 2 by decide) rfl rfl rfl rfl ?_; intro w2 hC hS; have C2 : Hid (RowAt w.heap.size (CellM.vals noCell) w2) := Lib.hid hC; have R2 := Lib.hid (StoredAt.row hS R1.out (by omega)); have G2 := Lib.hid (grown_store G1.out hS (Nat.le_refl _)); clear hC hS))
    exact bodyPost_ret (res1 rfl rfl C2.out Try.underlying24 rfl info_cell) rfl ⟨rfl, R2.out, G2.out⟩
  subst h0
  rw [if_pos rfl]
  by_cases h1 : (v : Int) = 255
  · rw [if_pos h1]
    have q1 : ((v : Int) == 255) = true := by simpa using h1
    clear hT
    go_enter Try.func65, Try.ntmps65
    go_wp2_with (first
      | (clear HU; refine wp_newW noCell.vals _ zero_cell rfl rfl ?_; intro w0 hC hb0 z0; have C0 := Lib.hid hC; have R0 := Lib.hid (RowAt.keep HR.out hb0); have G0 := Lib.hid (below_grownBy hb0 (some b)); clear hC hb0)
      | (go_at_call 54; have hq := R0.out; clear hq; (with_reducible refine (HN.out _ R0.out).mono ?_); rintro e1 w1 ⟨rfl, hR, hg⟩; have R1 := Lib.hid hR; have C1 := Lib.hid (RowAt.grown C0.out hg (row_ne hlt)); have G1 := Lib.hid (grownBy_trans G0.out hg); obtain ⟨a0, a1, a2⟩ := rd_all hR; simp only at a1 a2; clear hR hg R0 C0 G0)
      | (refine wp_storeCellW noCell C1.out (show 0 + 2 ≤ 2 by decide) rfl rfl rfl rfl ?_; intro w2 hC hS; have C2 : Hid (RowAt w.heap.size (CellM.vals noCell) w2) := Lib.hid hC; have R2 := Lib.hid (StoredAt.row hS R1.out (by omega)); have G2 := Lib.hid (grown_store G1.out hS (Nat.le_refl _)); clear hC hS))
    exact bodyPost_ret (res1 rfl rfl C2.out Try.underlying24 rfl info_cell) rfl ⟨rfl, R2.out, G2.out⟩
  rw [if_neg h1]
  have q1 : ((v : Int) == 255) = false := by simpa using h1
  by_cases h2 : 12 < (v : Int)
  · rw [if_pos h2]
    have d2 : decide (12 < (v : Int)) = true := by simpa using h2
    clear hT h1
    go_enter Try.func65, Try.ntmps65
    go_wp2_with (first
      | (clear HU; refine wp_newW noCell.vals _ zero_cell rfl rfl ?_; intro w0 hC hb0 z0; have C0 := Lib.hid hC; have R0 := Lib.hid (RowAt.keep HR.out hb0); have G0 := Lib.hid (below_grownBy hb0 (some b)); clear hC hb0)
      | (go_at_call 54; have hq := R0.out; clear hq; (with_reducible refine (HN.out _ R0.out).mono ?_); rintro e1 w1 ⟨rfl, hR, hg⟩; have R1 := Lib.hid hR; have C1 := Lib.hid (RowAt.grown C0.out hg (row_ne hlt)); have G1 := Lib.hid (grownBy_trans G0.out hg); obtain ⟨a0, a1, a2⟩ := rd_all hR; simp only at a1 a2; clear hR hg R0 C0 G0)
      | (refine wp_storeFieldW 35 (.int .i64 4) rfl rfl info_errno R1.out (show 2 < 3 by decide) rfl rfl rfl rfl ?_; intro w2 hR hS; have R2 : Hid (RowAt b (rdVals s ⟨p1, 4⟩) w2) := Lib.hid hR; have C2 := Lib.hid (StoredAt.row hS C1.out (by omega)); have G2 := Lib.hid (grownBy_trans G1.out (StoredAt.grown hS)); clear hR hS R1 C1 G1)
      | (refine wp_storeCellW noCell C2.out (show 0 + 2 ≤ 2 by decide) rfl rfl rfl rfl ?_; intro w3 hC hS; have C3 : Hid (RowAt w.heap.size (CellM.vals noCell) w3) := Lib.hid hC; have R3 := Lib.hid (StoredAt.row hS R2.out (by omega)); have G3 := Lib.hid (grown_store G2.out hS (Nat.le_refl _)); clear hC hS))
    exact bodyPost_ret (res1 rfl rfl C3.out Try.underlying24 rfl info_cell) rfl ⟨rfl, R3.out, G3.out⟩
  rw [if_neg h2]
  have d2 : decide (12 < (v : Int)) = false := by simpa using h2
  have HT := Lib.hid hT
  clear hT h1
  generalize txtR s v ⟨p1, 0⟩ = T at HT ⊢
  obtain ⟨t, rt⟩ := T
  simp only at HT ⊢
  go_enter Try.func65, Try.ntmps65
  go_wp2_with (first
    | (clear HU; refine wp_newW noCell.vals _ zero_cell rfl rfl ?_; intro w0 hC hb0 z0; have C0 := Lib.hid hC; have R0 := Lib.hid (RowAt.keep HR.out hb0); have G0 := Lib.hid (below_grownBy hb0 (some b)); clear hC hb0)
    | (go_at_call 54; have hq := R0.out; clear hq; (with_reducible refine (HN.out _ R0.out).mono ?_); rintro e1 w1 ⟨rfl, hR, hg⟩; have R1 := Lib.hid hR; have C1 := Lib.hid (RowAt.grown C0.out hg (row_ne hlt)); have G1 := Lib.hid (grownBy_trans G0.out hg); obtain ⟨a0, a1, a2⟩ := rd_all hR; simp only at a1 a2; clear hR hg R0 C0 G0)
    | (go_at_call 56; have hq := R1.out; clear hq; (with_reducible refine (HT.out _ R1.out).mono ?_); rintro e1 w2 ⟨rfl, hR, hg⟩; have R2 := Lib.hid hR; have C2 := Lib.hid (RowAt.grown C1.out hg (row_ne hlt)); have G2 := Lib.hid (grownBy_trans G1.out hg); clear hR hg R1 C1 G1 a0 a1 a2)
    | (refine wp_storeCellW ⟨true, t⟩ C2.out (show 0 + 2 ≤ 2 by decide) rfl rfl rfl rfl ?_; intro w3 hC hS; have C3 : Hid (RowAt w.heap.size (CellM.vals ⟨true, t⟩) w3) := Lib.hid hC; have R3 := Lib.hid (StoredAt.row hS R2.out (by omega)); have G3 := Lib.hid (grown_store G2.out hS (Nat.le_refl _)); clear hC hS))
  exact bodyPost_ret (res1 rfl rfl C3.out Try.underlying24 rfl info_cell) rfl ⟨rfl, R3.out, G3.out⟩
set_option maxRecDepth 4000 in
set_option maxHeartbeats 1000000 in
theorem ccel_any (b : Nat) (s : ByteArray) (r : RS) (hs : s.size ≤ 900000) (hp : r.pos ≤ s.size) : ReadC 37 #[.pointer (some ⟨b, 0, none⟩)] b s r (.agg #[.bool (celR s r).1.set, .string (celR s r).1.data]) (celR s r).2 := by
  intro w hr
  have hN := cnum1 b s r hs hp
  have hp1 := numR_pos s 1 r hp
  obtain ⟨v, hv, hv2⟩ := numR_nat s 1 (by decide) r
  have hT := ctxt b v s (numR s 1 r).2 hs hp1 (by omega)
  have hC : celR s r = if (numR s 1 r).2.err = 0 then (if (v : Int) = 255 then (noCell, (numR s 1 r).2) else if 12 < (v : Int) then (noCell, ⟨(numR s 1 r).2.pos, 4⟩) else (⟨true, (txtR s v (numR s 1 r).2).1⟩, (txtR s v (numR s 1 r).2).2)) else (noCell, (numR s 1 r).2) := by
    unfold celR
    simp only [hv, Int.toNat_natCast]
  rw [hC]
  rw [hv] at hN
  generalize (numR s 1 r).2 = r1 at hN hT hC hp1 ⊢
  clear hC hv
  obtain ⟨p1, e1⟩ := r1
  simp only at hp1 ⊢
  have hlt := hr.lt
  have HR := Lib.hid hr
  have HN := Lib.hid hN
  have HU : Hid True := Lib.hid trivial
  clear hr hN
  by_cases h0 : e1 = 0
  rotate_left
  · rw [if_neg h0]
    have q0 : (e1 != 0) = true := by simpa using h0
    clear h0 hT
    go_enter Try.func37, Try.ntmps37
    go_wp2_with (first
      | (clear HU; refine wp_newW noCell.vals _ zero_cell rfl rfl ?_; intro w0 hC hb0 z0; have C0 := Lib.hid hC; have R0 := Lib.hid (RowAt.keep HR.out hb0); have G0 := Lib.hid (below_grownBy hb0 (some b)); clear hC hb0)
      | (go_at_call 36; have hq := R0.out; clear hq; (with_reducible refine (HN.out _ R0.out).mono ?_); rintro e1 w1 ⟨rfl, hR, hg⟩; have R1 := Lib.hid hR; have C1 := Lib.hid (RowAt.grown C0.out hg (row_ne hlt)); have G1 := Lib.hid (grownBy_trans G0.out hg); obtain ⟨a0, a1, a2⟩ := rd_all hR; simp only at a1 a2; clear hR hg R0 C0 G0)
      | (refine wp_storeCellW noCell C1.out (show 0 + 2 ≤ 2 by decide) rfl rfl rfl rfl ?_; intro w2 hC hS; have C2 : Hid (RowAt w.heap.size (CellM.vals noCell) w2) := Lib.hid hC; have R2 := Lib.hid (StoredAt.row hS R1.out (by omega)); have G2 := Lib.hid (grown_store G1.out hS (Nat.le_refl _)); clear hC hS))
    exact bodyPost_ret (res1 rfl rfl C2.out Try.underlying24 rfl info_cell) rfl ⟨rfl, R2.out, G2.out⟩
  subst h0
  rw [if_pos rfl]
  by_cases h1 : (v : Int) = 255
  · rw [if_pos h1]
    have q1 : ((v : Int) == 255) = true := by simpa using h1
    clear hT
    go_enter Try.func37, Try.ntmps37
    go_wp2_with (first
      | (clear HU; refine wp_newW noCell.vals _ zero_cell rfl rfl ?_; intro w0 hC hb0 z0; have C0 := Lib.hid hC; have R0 := Lib.hid (RowAt.keep HR.out hb0); have G0 := Lib.hid (below_grownBy hb0 (some b)); clear hC hb0)
      | (go_at_call 36; have hq := R0.out; clear hq; (with_reducible refine (HN.out _ R0.out).mono ?_); rintro e1 w1 ⟨rfl, hR, hg⟩; have R1 := Lib.hid hR; have C1 := Lib.hid (RowAt.grown C0.out hg (row_ne hlt)); have G1 := Lib.hid (grownBy_trans G0.out hg); obtain ⟨a0, a1, a2⟩ := rd_all hR; simp only at a1 a2; clear hR hg R0 C0 G0)
      | (refine wp_storeCellW noCell C1.out (show 0 + 2 ≤ 2 by decide) rfl rfl rfl rfl ?_; intro w2 hC hS; have C2 : Hid (RowAt w.heap.size (CellM.vals noCell) w2) := Lib.hid hC; have R2 := Lib.hid (StoredAt.row hS R1.out (by omega)); have G2 := Lib.hid (grown_store G1.out hS (Nat.le_refl _)); clear hC hS))
    exact bodyPost_ret (res1 rfl rfl C2.out Try.underlying24 rfl info_cell) rfl ⟨rfl, R2.out, G2.out⟩
  rw [if_neg h1]
  have q1 : ((v : Int) == 255) = false := by simpa using h1
  by_cases h2 : 12 < (v : Int)
  · rw [if_pos h2]
    have d2 : decide (12 < (v : Int)) = true := by simpa using h2
    clear hT h1
    go_enter Try.func37, Try.ntmps37
    go_wp2_with (first
      | (clear HU; refine wp_newW noCell.vals _ zero_cell rfl rfl ?_; intro w0 hC hb0 z0; have C0 := Lib.hid hC; have R0 := Lib.hid (RowAt.keep HR.out hb0); have G0 := Lib.hid (below_grownBy hb0 (some b)); clear hC hb0)
      | (go_at_call 36; have hq := R0.out; clear hq; (with_reducible refine (HN.out _ R0.out).mono ?_); rintro e1 w1 ⟨rfl, hR, hg⟩; have R1 := Lib.hid hR; have C1 := Lib.hid (RowAt.grown C0.out hg (row_ne hlt)); have G1 := Lib.hid (grownBy_trans G0.out hg); obtain ⟨a0, a1, a2⟩ := rd_all hR; simp only at a1 a2; clear hR hg R0 C0 G0)
      | (refine wp_storeFieldW 35 (.int .i64 4) rfl rfl info_errno R1.out (show 2 < 3 by decide) rfl rfl rfl rfl ?_; intro w2 hR hS; have R2 : Hid (RowAt b (rdVals s ⟨p1, 4⟩) w2) := Lib.hid hR; have C2 := Lib.hid (StoredAt.row hS C1.out (by omega)); have G2 := Lib.hid (grownBy_trans G1.out (StoredAt.grown hS)); clear hR hS R1 C1 G1)
      | (refine wp_storeCellW noCell C2.out (show 0 + 2 ≤ 2 by decide) rfl rfl rfl rfl ?_; intro w3 hC hS; have C3 : Hid (RowAt w.heap.size (CellM.vals noCell) w3) := Lib.hid hC; have R3 := Lib.hid (StoredAt.row hS R2.out (by omega)); have G3 := Lib.hid (grown_store G2.out hS (Nat.le_refl _)); clear hC hS))
    exact bodyPost_ret (res1 rfl rfl C3.out Try.underlying24 rfl info_cell) rfl ⟨rfl, R3.out, G3.out⟩
  rw [if_neg h2]
  have d2 : decide (12 < (v : Int)) = false := by simpa using h2
  have HT := Lib.hid hT
  clear hT h1
  generalize txtR s v ⟨p1, 0⟩ = T at HT ⊢
  obtain ⟨t, rt⟩ := T
  simp only at HT ⊢
  go_enter Try.func37, Try.ntmps37
  go_wp2_with (first
    | (clear HU; refine wp_newW noCell.vals _ zero_cell rfl rfl ?_; intro w0 hC hb0 z0; have C0 := Lib.hid hC; have R0 := Lib.hid (RowAt.keep HR.out hb0); have G0 := Lib.hid (below_grownBy hb0 (some b)); clear hC hb0)
    | (go_at_call 36; have hq := R0.out; clear hq; (with_reducible refine (HN.out _ R0.out).mono ?_); rintro e1 w1 ⟨rfl, hR, hg⟩; have R1 := Lib.hid hR; have C1 := Lib.hid (RowAt.grown C0.out hg (row_ne hlt)); have G1 := Lib.hid (grownBy_trans G0.out hg); obtain ⟨a0, a1, a2⟩ := rd_all hR; simp only at a1 a2; clear hR hg R0 C0 G0)
    | (go_at_call 38; have hq := R1.out; clear hq; (with_reducible refine (HT.out _ R1.out).mono ?_); rintro e1 w2 ⟨rfl, hR, hg⟩; have R2 := Lib.hid hR; have C2 := Lib.hid (RowAt.grown C1.out hg (row_ne hlt)); have G2 := Lib.hid (grownBy_trans G1.out hg); clear hR hg R1 C1 G1 a0 a1 a2)
    | (refine wp_storeCellW ⟨true, t⟩ C2.out (show 0 + 2 ≤ 2 by decide) rfl rfl rfl rfl ?_; intro w3 hC hS; have C3 : Hid (RowAt w.heap.size (CellM.vals ⟨true, t⟩) w3) := Lib.hid hC; have R3 := Lib.hid (StoredAt.row hS R2.out (by omega)); have G3 := Lib.hid (grown_store G2.out hS (Nat.le_refl _)); clear hC hS))
  exact bodyPost_ret (res1 rfl rfl C3.out Try.underlying24 rfl info_cell) rfl ⟨rfl, R3.out, G3.out⟩
set_option maxRecDepth 4000 in
set_option maxHeartbeats 1000000 in
theorem chg_any (b : Nat) (s : ByteArray) (r : RS) (hs : s.size ≤ 900000) (hp : r.pos ≤ s.size) : ReadC 55 #[.pointer (some ⟨b, 0, none⟩)] b s r (.agg (chgR s r).1.arr) (chgR s r).2 := by
  intro w hr
  have h0 := num4 b s r hs hp
  have p1 := numR_pos s 4 r hp
  have h1 := num1 b s _ hs p1
  have p2 := numR_pos s 1 _ p1
  have h2 := cel_any b s _ hs p2
  have p3 := celR_pos s _ p2
  have h3 := cel_any b s _ hs p3
  unfold chgR
  simp only
  clear p1 p2 p3
  generalize celR s (celR s (numR s 1 (numR s 4 r).2).2).2 = D at h3 ⊢
  generalize celR s (numR s 1 (numR s 4 r).2).2 = C at h2 h3 ⊢
  generalize numR s 1 (numR s 4 r).2 = B at h1 h2 ⊢
  generalize numR s 4 r = A at h0 h1 ⊢
  obtain ⟨av, ar⟩ := A
  obtain ⟨bv, br⟩ := B
  obtain ⟨cv, cr⟩ := C
  obtain ⟨dv, dr⟩ := D
  simp only at h0 h1 h2 h3 ⊢
  have hlt := hr.lt
  have HR := Lib.hid hr
  have H0 := Lib.hid h0
  have H1 := Lib.hid h1
  have H2 := Lib.hid h2
  have H3 := Lib.hid h3
  have hbd := build_chg av bv cv dv
  have HU : Hid True := Lib.hid trivial
  clear hr h0 h1 h2 h3
  go_enter Try.func55, Try.ntmps55
  go_wp2_with (first
    | (clear HU; refine wp_newW chg0.vals _ zero_chg rfl rfl ?_; intro w0 hC hb0 z0; have C0 := Lib.hid hC; have R0 := Lib.hid (RowAt.keep HR.out hb0); have G0 := Lib.hid (below_grownBy hb0 (some b)); clear hC hb0)
    | (go_at_call 54; have hq := R0.out; clear hq; (with_reducible refine (H0.out _ R0.out).mono ?_); rintro e1 w1 ⟨rfl, hR, hg⟩; have R1 := Lib.hid hR; have C1 := Lib.hid (RowAt.grown C0.out hg (row_ne hlt)); have G1 := Lib.hid (grownBy_trans G0.out hg); clear hR hg R0 C0 G0)
    | (go_at_call 54; have hq := R1.out; clear hq; (with_reducible refine (H1.out _ R1.out).mono ?_); rintro e1 w2 ⟨rfl, hR, hg⟩; have R2 := Lib.hid hR; have C2 := Lib.hid (RowAt.grown C1.out hg (row_ne hlt)); have G2 := Lib.hid (grownBy_trans G1.out hg); clear hR hg R1 C1 G1)
    | (go_at_call 65; have hq := R2.out; clear hq; (with_reducible refine (H2.out _ R2.out).mono ?_); rintro e1 w3 ⟨rfl, hR, hg⟩; have R3 := Lib.hid hR; have C3 := Lib.hid (RowAt.grown C2.out hg (row_ne hlt)); have G3 := Lib.hid (grownBy_trans G2.out hg); clear hR hg R2 C2 G2)
    | (go_at_call 65; have hq := R3.out; clear hq; (with_reducible refine (H3.out _ R3.out).mono ?_); rintro e1 w4 ⟨rfl, hR, hg⟩; have R4 := Lib.hid hR; have C4 := Lib.hid (RowAt.grown C3.out hg (row_ne hlt)); have G4 := Lib.hid (grownBy_trans G3.out hg); clear hR hg R3 C3 G3)
    | (clear hbd; refine wp_storeChgW ⟨av, bv, cv, dv⟩ C4.out (cvals_length _) rfl rfl rfl rfl ?_; intro w5 hC hS; have C5 := Lib.hid hC; have hS2 : StoredAt w.heap.size w4 w5 := (hS.elim fun us h => ⟨0, us, h⟩); have R5 := Lib.hid (StoredAt.row hS2 R4.out (by omega)); have G5 := Lib.hid (grown_store G4.out hS2 (Nat.le_refl _)); clear hC hS hS2))
  exact bodyPost_ret (res_chg rfl rfl C5.out) rfl ⟨rfl, R5.out, G5.out⟩
section
variable {ops : Array Oper} {rest : List Oper} {o : Oper} {a : Act} {w : World} {Q : Exit → Act → World → Prop}
theorem wp_buildEnt {x0 x1 x2 x3 x4 x5 x6 x7 : Operand} (n0 n1 n2 n3 n4 n5 : Int) (g : Chg) (s : ByteArray) (ho : o.op = .build 28 #[(0, x0), (1, x1), (2, x2), (3, x3), (4, x4), (5, x5), (6, x6), (7, x7)])
    (h0 : a.eval x0 = .int .i64 n0) (h1 : a.eval x1 = .int .i64 n1) (h2 : a.eval x2 = .int .i64 n2) (h3 : a.eval x3 = .int .i64 n3) (h4 : a.eval x4 = .int .i64 n4) (h5 : a.eval x5 = .int .i64 n5) (h6 : a.eval x6 = .agg g.arr) (h7 : a.eval x7 = .string s)
    (hgd : Region.wanted o (yielded ops a.tmps) = true) (hn : wpList Try.prog ops Q rest (a.put o.dst (.agg (Ent.arr ⟨n0, n1, n2, n3, n4, n5, g, s⟩))) w) : wpList Try.prog ops Q (o :: rest) a w :=
  wpList_step fun _ hK => by
    rw [if_pos hgd]
    have hb := build_ent n0 n1 n2 n3 n4 n5 g s w
    unfold Oper.wp execOp
    simp only [ho]
    simp only [List.map_toArray, List.map_cons, List.map_nil, h0, h1, h2, h3, h4, h5, h6, h7, hb, Sem.run_bind, Result.andThen_ok, Sem.run_pure]
    exact hK _ _ hn
end
theorem entR_pos (s : ByteArray) (r : RS) (h : r.pos ≤ s.size) : (entR s r).2.pos ≤ s.size := txtR_pos s _ _ (numR_pos s _ _ (chgR_pos s _ (numR_pos s _ _ (numR_pos s _ _ (numR_pos s _ _ (numR_pos s _ _ (numR_pos s _ _ (numR_pos s _ _ h))))))))
set_option maxRecDepth 4000 in
set_option maxHeartbeats 4000000 in
theorem ent_any (b : Nat) (s : ByteArray) (r : RS) (hs : s.size ≤ 900000) (hp : r.pos ≤ s.size) : ReadC 35 #[.pointer (some ⟨b, 0, none⟩)] b s r (.agg (entR s r).1.arr) (entR s r).2 := by
  intro w hr
  have h0 := num8 b s r hs hp
  have p1 := numR_pos s 8 r hp
  have hE : entR s r = (⟨(numR s 8 r).1, (numR s 1 (numR s 8 r).2).1, (numR s 4 (numR s 1 (numR s 8 r).2).2).1, (numR s 8 (numR s 4 (numR s 1 (numR s 8 r).2).2).2).1, (numR s 8 (numR s 8 (numR s 4 (numR s 1 (numR s 8 r).2).2).2).2).1, (numR s 8 (numR s 8 (numR s 8 (numR s 4 (numR s 1 (numR s 8 r).2).2).2).2).2).1,
    (chgR s (numR s 8 (numR s 8 (numR s 8 (numR s 4 (numR s 1 (numR s 8 r).2).2).2).2).2).2).1, (txtR s (numR s 4 (chgR s (numR s 8 (numR s 8 (numR s 8 (numR s 4 (numR s 1 (numR s 8 r).2).2).2).2).2).2).2).1.toNat (numR s 4 (chgR s (numR s 8 (numR s 8 (numR s 8 (numR s 4 (numR s 1 (numR s 8 r).2).2).2).2).2).2).2).2).1⟩,
    (txtR s (numR s 4 (chgR s (numR s 8 (numR s 8 (numR s 8 (numR s 4 (numR s 1 (numR s 8 r).2).2).2).2).2).2).2).1.toNat (numR s 4 (chgR s (numR s 8 (numR s 8 (numR s 8 (numR s 4 (numR s 1 (numR s 8 r).2).2).2).2).2).2).2).2).2) := rfl
  rw [hE]
  clear hE
  generalize numR s 8 r = A0 at h0 p1 ⊢
  have h1 := num1 b s _ hs p1
  have p2 := numR_pos s 1 _ p1
  generalize numR s 1 A0.2 = A1 at h1 p2 ⊢
  have h2 := num4 b s _ hs p2
  have p3 := numR_pos s 4 _ p2
  generalize numR s 4 A1.2 = A2 at h2 p3 ⊢
  have h3 := num8 b s _ hs p3
  have p4 := numR_pos s 8 _ p3
  generalize numR s 8 A2.2 = A3 at h3 p4 ⊢
  have h4 := num8 b s _ hs p4
  have p5 := numR_pos s 8 _ p4
  generalize numR s 8 A3.2 = A4 at h4 p5 ⊢
  have h5 := num8 b s _ hs p5
  have p6 := numR_pos s 8 _ p5
  generalize numR s 8 A4.2 = A5 at h5 p6 ⊢
  have h6 := chg_any b s _ hs p6
  have p7 := chgR_pos s _ p6
  generalize chgR s A5.2 = A6 at h6 p7 ⊢
  have h7 := num4 b s _ hs p7
  have p8 := numR_pos s 4 _ p7
  obtain ⟨n, hn, hn2⟩ := numR_nat s 4 (by decide) A6.2
  rw [hn] at h7 ⊢
  rw [Int.toNat_natCast]
  clear hn
  generalize (numR s 4 A6.2).2 = r8 at h7 p8 ⊢
  have h8 := txt b n s _ hs p8 (by omega)
  generalize txtR s n r8 = A8 at h8 ⊢
  obtain ⟨v0, r1⟩ := A0
  obtain ⟨v1, r2⟩ := A1
  obtain ⟨v2, r3⟩ := A2
  obtain ⟨v3, r4⟩ := A3
  obtain ⟨v4, r5⟩ := A4
  obtain ⟨v5, r6⟩ := A5
  obtain ⟨v6, r7⟩ := A6
  obtain ⟨v8, r9⟩ := A8
  simp only at h0 h1 h2 h3 h4 h5 h6 h7 h8 ⊢
  clear p1 p2 p3 p4 p5 p6 p7 p8 hp hn2
  have hlt := hr.lt
  have HR := Lib.hid hr
  have H0 := Lib.hid h0
  have H1 := Lib.hid h1
  have H2 := Lib.hid h2
  have H3 := Lib.hid h3
  have H4 := Lib.hid h4
  have H5 := Lib.hid h5
  have H6 := Lib.hid h6
  have H7 := Lib.hid h7
  have H8 := Lib.hid h8
  have HU : Hid True := Lib.hid trivial
  clear hr h0 h1 h2 h3 h4 h5 h6 h7 h8
  go_enter Try.func35, Try.ntmps35
  go_wp2_with (first
    | (clear HU; refine wp_newEntW rfl rfl ?_; intro w0 hC hb0 z0; have C0 := Lib.hid hC; have R0 := Lib.hid (RowAt.keep HR.out hb0); have G0 := Lib.hid (below_grownBy hb0 (some b)); clear hC hb0)
    | (go_at_call 54; have hq := R0.out; clear hq; (with_reducible refine (H0.out _ R0.out).mono ?_); rintro e1 w1 ⟨rfl, hR, hg⟩; have R1 := Lib.hid hR; have C1 := Lib.hid (RowAt.grown C0.out hg (row_ne hlt)); have G1 := Lib.hid (grownBy_trans G0.out hg); clear hR hg R0 C0 G0)
    | (go_at_call 54; have hq := R1.out; clear hq; (with_reducible refine (H1.out _ R1.out).mono ?_); rintro e1 w2 ⟨rfl, hR, hg⟩; have R2 := Lib.hid hR; have C2 := Lib.hid (RowAt.grown C1.out hg (row_ne hlt)); have G2 := Lib.hid (grownBy_trans G1.out hg); clear hR hg R1 C1 G1)
    | (go_at_call 54; have hq := R2.out; clear hq; (with_reducible refine (H2.out _ R2.out).mono ?_); rintro e1 w3 ⟨rfl, hR, hg⟩; have R3 := Lib.hid hR; have C3 := Lib.hid (RowAt.grown C2.out hg (row_ne hlt)); have G3 := Lib.hid (grownBy_trans G2.out hg); clear hR hg R2 C2 G2)
    | (go_at_call 54; have hq := R3.out; clear hq; (with_reducible refine (H3.out _ R3.out).mono ?_); rintro e1 w4 ⟨rfl, hR, hg⟩; have R4 := Lib.hid hR; have C4 := Lib.hid (RowAt.grown C3.out hg (row_ne hlt)); have G4 := Lib.hid (grownBy_trans G3.out hg); clear hR hg R3 C3 G3)
    | (go_at_call 54; have hq := R4.out; clear hq; (with_reducible refine (H4.out _ R4.out).mono ?_); rintro e1 w5 ⟨rfl, hR, hg⟩; have R5 := Lib.hid hR; have C5 := Lib.hid (RowAt.grown C4.out hg (row_ne hlt)); have G5 := Lib.hid (grownBy_trans G4.out hg); clear hR hg R4 C4 G4)
    | (go_at_call 54; have hq := R5.out; clear hq; (with_reducible refine (H5.out _ R5.out).mono ?_); rintro e1 w6 ⟨rfl, hR, hg⟩; have R6 := Lib.hid hR; have C6 := Lib.hid (RowAt.grown C5.out hg (row_ne hlt)); have G6 := Lib.hid (grownBy_trans G5.out hg); clear hR hg R5 C5 G5)
    | (go_at_call 55; have hq := R6.out; clear hq; (with_reducible refine (H6.out _ R6.out).mono ?_); rintro e1 w7 ⟨rfl, hR, hg⟩; have R7 := Lib.hid hR; have C7 := Lib.hid (RowAt.grown C6.out hg (row_ne hlt)); have G7 := Lib.hid (grownBy_trans G6.out hg); clear hR hg R6 C6 G6)
    | (go_at_call 54; have hq := R7.out; clear hq; (with_reducible refine (H7.out _ R7.out).mono ?_); rintro e1 w8 ⟨rfl, hR, hg⟩; have R8 := Lib.hid hR; have C8 := Lib.hid (RowAt.grown C7.out hg (row_ne hlt)); have G8 := Lib.hid (grownBy_trans G7.out hg); clear hR hg R7 C7 G7)
    | (go_at_call 56; have hq := R8.out; clear hq; (with_reducible refine (H8.out _ R8.out).mono ?_); rintro e1 w9 ⟨rfl, hR, hg⟩; have R9 := Lib.hid hR; have C9 := Lib.hid (RowAt.grown C8.out hg (row_ne hlt)); have G9 := Lib.hid (grownBy_trans G8.out hg); clear hR hg R8 C8 G8)
    | (refine wp_buildEnt v0 v1 v2 v3 v4 v5 v6 v8 rfl rfl rfl rfl rfl rfl rfl rfl rfl rfl ?_)
    | (refine wp_storeEntW ⟨v0, v1, v2, v3, v4, v5, v6, v8⟩ C9.out (evals_length _) rfl rfl rfl rfl ?_; intro w10 hC hS; have C10 := Lib.hid hC; have R10 := Lib.hid (StoredAt.row hS R9.out (by omega)); have G10 := Lib.hid (grown_store G9.out hS (Nat.le_refl _)); clear hC hS))
  exact bodyPost_ret (res_ent rfl rfl C10.out) rfl ⟨rfl, R10.out, G10.out⟩
end Go.Proofs.Ytiojpfljnbdonaa.ok
