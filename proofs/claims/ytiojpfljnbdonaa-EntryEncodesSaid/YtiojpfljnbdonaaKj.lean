/- Pages and changes as arguments; the draw of an odd change. -/
import Derived.Test.YtiojpfljnbdonaaKg
namespace Go.Proofs.Ytiojpfljnbdonaa.kj
open Go.ChangeShapes Go.WideShapes Go.ChangeAt Go.RowKit Go.Proofs.Ytiojpfljnbdonaa.cx Go.Proofs.Ytiojpfljnbdonaa.da Go.Proofs.Ytiojpfljnbdonaa.ea Go.Proofs.Ytiojpfljnbdonaa.eb Go.Proofs.Ytiojpfljnbdonaa.ed Go.Proofs.Ytiojpfljnbdonaa.fb Go.Proofs.Ytiojpfljnbdonaa.ka Go.Proofs.Ytiojpfljnbdonaa.kb Go.Proofs.Ytiojpfljnbdonaa.kg Go.Proofs.Ytiojpfljnbdonaa.ra Go.Proofs.Ytiojpfljnbdonaa.rb Go.Proofs.Ytiojpfljnbdonaa.rc Go.Proofs.Ytiojpfljnbdonaa.ya
theorem cell_int {P : Program} {w : World} {r : Reach} {base : Nat} {t : TypeId} {k : IntKind} {v : Value} (ht : P.underlying t = some (.int k)) (h : Cell.okWide P w r base t v) : ∃ n, v = .int k n := by
  simp only [Cell.okWide, ht] at h
  cases v <;> simp_all [Cell.ok]
theorem cell_bool {P : Program} {w : World} {r : Reach} {base : Nat} {t : TypeId} {v : Value} (ht : P.underlying t = some .bool) (h : Cell.okWide P w r base t v) : ∃ n, v = .bool n := by
  simp only [Cell.okWide, ht] at h
  cases v <;> simp_all [Cell.ok]
theorem cell_str {P : Program} {w : World} {r : Reach} {base : Nat} {t : TypeId} {v : Value} (ht : P.underlying t = some .string) (h : Cell.okWide P w r base t v) : ∃ s, v = .string s ∧ s.size ≤ 9223372036854775807 := by
  simp only [Cell.okWide, ht] at h
  cases v <;> simp_all [Cell.ok]
  omega
theorem chg_types : Try.prog.cellTypes Try.prog.depth 26 = some [3, 3, 4, 9, 4, 9] := by kernel_rfl
theorem chg_cells : Try.prog.cellsOf 26 = 6 := by kernel_rfl
theorem open_change {W : World} {r : Reach} {base : Nat} {v : Value} (h : Value.okWide Try.prog W r base 26 v) : ∃ c : Chg, v = .agg c.arr ∧ FitsH c := by
  simp only [Value.okWide, Try.underlying26] at h
  obtain ⟨cs, rfl, hsz, ts, hts, _, hc⟩ := h
  obtain rfl := Option.some.inj (chg_types.symm.trans hts)
  rw [chg_cells] at hsz
  obtain ⟨l⟩ := cs
  match l, hsz with
  | [a, b, c, d, e, f], _ =>
    obtain ⟨u0, hu0, k0⟩ := hc 0 a rfl
    obtain ⟨u1, hu1, k1⟩ := hc 1 b rfl
    obtain ⟨u2, hu2, k2⟩ := hc 2 c rfl
    obtain ⟨u3, hu3, k3⟩ := hc 3 d rfl
    obtain ⟨u4, hu4, k4⟩ := hc 4 e rfl
    obtain ⟨u5, hu5, k5⟩ := hc 5 f rfl
    obtain rfl := Option.some.inj hu0
    obtain rfl := Option.some.inj hu1
    obtain rfl := Option.some.inj hu2
    obtain rfl := Option.some.inj hu3
    obtain rfl := Option.some.inj hu4
    obtain rfl := Option.some.inj hu5
    obtain ⟨n0, rfl⟩ := cell_int Try.underlying3 k0
    obtain ⟨n1, rfl⟩ := cell_int Try.underlying3 k1
    obtain ⟨b2, rfl⟩ := cell_bool Try.underlying4 k2
    obtain ⟨s3, rfl, h3⟩ := cell_str Try.underlying9 k3
    obtain ⟨b4, rfl⟩ := cell_bool Try.underlying4 k4
    obtain ⟨s5, rfl, h5⟩ := cell_str Try.underlying9 k5
    exact ⟨⟨n0, n1, ⟨b2, s3⟩, ⟨b4, s5⟩⟩, rfl, h3, h5⟩

def OddHR (p : Nat) (w : World) (e : Ending) (w' : World) : Prop := ∃ c : Chg, e = .returned (.agg c.arr) ∧ FitsH c ∧ Cod p w' ∧ Since p w w'
theorem data_le {d : ByteArray} (h : d.size ≤ 13) : d.size ≤ 9223372036854775807 := Nat.le_trans h (by decide)
theorem storedAt_cod {b p : Nat} {w W : World} (h : StoredAt b w W) (hc : Cod p w) (hb : p < b) : Cod p W := by
  obtain ⟨f, us, rfl⟩ := h
  exact cod_cells us f hc hb
theorem storedAt_since {b p : Nat} {w0 w W : World} (h : StoredAt b w W) (hc : Since p w0 w) (hb : w0.heap.size ≤ b) : Since p w0 W := by
  obtain ⟨f, us, rfl⟩ := h
  exact since_cells us f hc hb
set_option maxRecDepth 4000 in
set_option maxHeartbeats 1000000 in
theorem oddChange_any (p : Nat) (c : Chg) (w : World) (h : Cod p w) (hf : FitsH c) : Calls Try.prog 25 #[.pointer (some ⟨p, 0, none⟩), .agg c.arr] w (OddHR p w) := by
  have hlt := cod_lt h
  have HU : Hid True := Lib.hid trivial
  have H := Lib.hid h
  clear h
  go_enter Try.func25, Try.ntmps25
  go_wp2_with (first
    | (clear HU; refine wp_boxChgW c rfl rfl rfl ?_; intro w1 hA hb1 hz1; have A1 := Lib.hid hA; have C1 := Lib.hid (cod_keep H.out hb1); have S1 := Lib.hid (since_below (grownBy_refl w (some p)) hb1); clear hA hb1 hz1 H)
    | (have la := A1.out.lt; refine wp_newChgW rfl rfl ?_; intro w2 hR hb2 hz2; have R2 := Lib.hid hR; have A2 := Lib.hid (RowAt.keep A1.out hb2); have C2 := Lib.hid (cod_keep C1.out hb2); have S2 := Lib.hid (since_below S1.out hb2); clear hR hb2 hz2 A1 C1 S1))
  have hle : w.heap.size ≤ w1.heap.size := by omega
  go_at_call 19
  refine (next_any p 4 _ C2.out (by decide)).mono ?_
  rintro e w3 ⟨r, rfl, hr0, hr1, _, hC3, hg3⟩
  have hr4 := hr1 (by decide)
  have R3 := Lib.hid (R2.out.grown hg3 (row_ne (by omega)))
  have A3 := Lib.hid (RowAt.grown A2.out hg3 (row_ne hlt))
  have C3 := Lib.hid hC3
  have S3 := Lib.hid (grownBy_trans S2.out hg3)
  clear hC3 hg3 hr1 R2 A2 C2 S2
  have h4 : r = 0 ∨ r = 1 ∨ r = 2 ∨ r = 3 := by omega
  have hne : w.heap.size ≠ w1.heap.size := by omega
  have hltr : p < w1.heap.size := by omega
  rcases h4 with rfl | rfl | rfl | rfl
  · go_wp2_with fail
    go_at_call 24
    refine (int_any p _ C3.out).mono ?_
    rintro e w4 ⟨n, rfl, hC4, hg4⟩
    have R4 := Lib.hid (R3.out.grown hg4 (row_ne hltr))
    have hA4 := RowAt.grown A3.out hg4 (row_ne hlt)
    have c0 := RowAt.cells hA4 0 _ rfl
    have f0 := RowAt.free hA4 0
    have HA5 : Hid (ChAt w.heap.size { c with page := n } (w4.setCell ⟨w.heap.size, 0, none⟩ (.int .i64 n))) := Lib.hid (RowAt.set hA4 0 (show 0 < 6 by decide) _)
    have R5 : Hid (RowAt w1.heap.size chg0.vals (w4.setCell ⟨w.heap.size, 0, none⟩ (.int .i64 n))) := Lib.hid (RowAt.setOther R4.out (by exact hne) _)
    have C5 : Hid (Cod p (w4.setCell ⟨w.heap.size, 0, none⟩ (.int .i64 n))) := Lib.hid (cod_set hC4 (by exact hlt) _)
    have S5 : Hid (Since p w (w4.setCell ⟨w.heap.size, 0, none⟩ (.int .i64 n))) := Lib.hid (since_set (grownBy_trans S3.out hg4) (by exact Nat.le_refl _) _)
    clear hC4 hg4 hA4 R3 A3 C3 S3 R4 hne
    go_wp2_with (first
      | (refine wp_loadChg { c with page := n } HA5.out rfl rfl rfl ?_)
      | (refine wp_storeChgW { c with page := n } R5.out (cvals_length _) rfl rfl rfl rfl ?_; intro w6 hR hS; have R6 := Lib.hid hR; have C6 := Lib.hid (hS.cod C5.out hltr); have S6 := Lib.hid (hS.since S5.out hle); clear hR hS R5 C5 S5))
    exact bodyPost_ret (res_chg rfl rfl R6.out) rfl ⟨_, rfl, hf, C6.out, S6.out⟩
  · go_wp2_with fail
    go_at_call 24
    refine (int_any p _ C3.out).mono ?_
    rintro e w4 ⟨n, rfl, hC4, hg4⟩
    have R4 := Lib.hid (R3.out.grown hg4 (row_ne hltr))
    have hA4 := RowAt.grown A3.out hg4 (row_ne hlt)
    have c0 := RowAt.cells hA4 1 _ rfl
    have f0 := RowAt.free hA4 1
    have HA5 : Hid (ChAt w.heap.size { c with slot := n } (w4.setCell ⟨w.heap.size, 1, none⟩ (.int .i64 n))) := Lib.hid (RowAt.set hA4 1 (show 1 < 6 by decide) _)
    have R5 : Hid (RowAt w1.heap.size chg0.vals (w4.setCell ⟨w.heap.size, 1, none⟩ (.int .i64 n))) := Lib.hid (RowAt.setOther R4.out (by exact hne) _)
    have C5 : Hid (Cod p (w4.setCell ⟨w.heap.size, 1, none⟩ (.int .i64 n))) := Lib.hid (cod_set hC4 (by exact hlt) _)
    have S5 : Hid (Since p w (w4.setCell ⟨w.heap.size, 1, none⟩ (.int .i64 n))) := Lib.hid (since_set (grownBy_trans S3.out hg4) (by exact Nat.le_refl _) _)
    clear hC4 hg4 hA4 R3 A3 C3 S3 R4 hne
    go_wp2_with (first
      | (refine wp_loadChg { c with slot := n } HA5.out rfl rfl rfl ?_)
      | (refine wp_storeChgW { c with slot := n } R5.out (cvals_length _) rfl rfl rfl rfl ?_; intro w6 hR hS; have R6 := Lib.hid hR; have C6 := Lib.hid (hS.cod C5.out hltr); have S6 := Lib.hid (hS.since S5.out hle); clear hR hS R5 C5 S5))
    exact bodyPost_ret (res_chg rfl rfl R6.out) rfl ⟨_, rfl, hf, C6.out, S6.out⟩
  · go_wp2_with fail
    go_at_call 19
    refine (next_any p 2 _ C3.out (by decide)).mono ?_
    rintro e w4 ⟨n4, rfl, hn0, hn1, _, hC4, hg4⟩
    have R4 := Lib.hid (R3.out.grown hg4 (row_ne hltr))
    have A4 := Lib.hid (RowAt.grown A3.out hg4 (row_ne hlt))
    have C4 := Lib.hid hC4
    have S4 := Lib.hid (grownBy_trans S3.out hg4)
    clear hC4 hg4 R3 A3 C3 S3
    go_wp2_with fail
    go_at_call 23
    refine (data_any p _ C4.out).mono ?_
    rintro e w5 ⟨d, rfl, hd, hC5, hg5⟩
    have R5 := Lib.hid (R4.out.grown hg5 (row_ne hltr))
    have A5 := Lib.hid (RowAt.grown A4.out hg5 (row_ne hlt))
    have C5 := Lib.hid hC5
    have S5 := Lib.hid (grownBy_trans S4.out hg5)
    clear hC5 hg5 R4 A4 C4 S4
    go_wp2_with (first
      | (refine wp_storeCellW ⟨n4 == 1, d⟩ A5.out (show 2 + 2 ≤ 6 by decide) rfl rfl rfl rfl ?_; intro w6 hA hS; have HA6 : Hid (ChAt w.heap.size { c with before := ⟨n4 == 1, d⟩ } w6) := Lib.hid hA; have R6 := Lib.hid (hS.row R5.out hne); have C6 := Lib.hid (storedAt_cod hS C5.out hlt); have S6 := Lib.hid (storedAt_since hS S5.out (Nat.le_refl _)); clear hA hS A5 R5 C5 S5)
      | (refine wp_loadChg { c with before := ⟨n4 == 1, d⟩ } HA6.out rfl rfl rfl ?_)
      | (refine wp_storeChgW { c with before := ⟨n4 == 1, d⟩ } R6.out (cvals_length _) rfl rfl rfl rfl ?_; intro w7 hR hS; have R7 := Lib.hid hR; have C7 := Lib.hid (hS.cod C6.out hltr); have S7 := Lib.hid (hS.since S6.out hle); clear hR hS R6 C6 S6))
    exact bodyPost_ret (res_chg rfl rfl R7.out) rfl ⟨_, rfl, ⟨data_le hd, hf.2⟩, C7.out, S7.out⟩
  · go_wp2_with fail
    go_at_call 19
    refine (next_any p 2 _ C3.out (by decide)).mono ?_
    rintro e w4 ⟨n4, rfl, hn0, hn1, _, hC4, hg4⟩
    have R4 := Lib.hid (R3.out.grown hg4 (row_ne hltr))
    have A4 := Lib.hid (RowAt.grown A3.out hg4 (row_ne hlt))
    have C4 := Lib.hid hC4
    have S4 := Lib.hid (grownBy_trans S3.out hg4)
    clear hC4 hg4 R3 A3 C3 S3
    go_wp2_with fail
    go_at_call 23
    refine (data_any p _ C4.out).mono ?_
    rintro e w5 ⟨d, rfl, hd, hC5, hg5⟩
    have R5 := Lib.hid (R4.out.grown hg5 (row_ne hltr))
    have A5 := Lib.hid (RowAt.grown A4.out hg5 (row_ne hlt))
    have C5 := Lib.hid hC5
    have S5 := Lib.hid (grownBy_trans S4.out hg5)
    clear hC5 hg5 R4 A4 C4 S4
    go_wp2_with (first
      | (refine wp_storeCellW ⟨n4 == 1, d⟩ A5.out (show 4 + 2 ≤ 6 by decide) rfl rfl rfl rfl ?_; intro w6 hA hS; have HA6 : Hid (ChAt w.heap.size { c with after := ⟨n4 == 1, d⟩ } w6) := Lib.hid hA; have R6 := Lib.hid (hS.row R5.out hne); have C6 := Lib.hid (storedAt_cod hS C5.out hlt); have S6 := Lib.hid (storedAt_since hS S5.out (Nat.le_refl _)); clear hA hS A5 R5 C5 S5)
      | (refine wp_loadChg { c with after := ⟨n4 == 1, d⟩ } HA6.out rfl rfl rfl ?_)
      | (refine wp_storeChgW { c with after := ⟨n4 == 1, d⟩ } R6.out (cvals_length _) rfl rfl rfl rfl ?_; intro w7 hR hS; have R7 := Lib.hid hR; have C7 := Lib.hid (hS.cod C6.out hltr); have S7 := Lib.hid (hS.since S6.out hle); clear hR hS R6 C6 S6))
    exact bodyPost_ret (res_chg rfl rfl R7.out) rfl ⟨_, rfl, ⟨hf.1, data_le hd⟩, C7.out, S7.out⟩
end Go.Proofs.Ytiojpfljnbdonaa.kj
