/- A device among the arguments of a statement. -/
import Derived.Test.YtikpchhhenonaaaLk
import Derived.Deep.Slices
import Derived.Deep.MidRow
import Derived.SliceStrings
import Derived.OpenShut
namespace Go.Proofs.Ytikpchhhenonaaa.nu
set_option linter.unusedSimpArgs false
open Go.ChangeShapes Go.WideShapes Go.ChangeAt Go.RowKit Go.Proofs.Ytikpchhhenonaaa.cx Go.Proofs.Ytikpchhhenonaaa.ra Go.Proofs.Ytikpchhhenonaaa.la Go.Proofs.Ytikpchhhenonaaa.lb Go.Proofs.Ytikpchhhenonaaa.lh

theorem cell_int {P : Program} {w : World} {r : Reach} {base : Nat} {t : TypeId} {k : IntKind} {v : Value} (ht : P.underlying t = some (.int k)) (h : Cell.okWide P w r base t v) : ∃ n, v = .int k n := by
  simp only [Cell.okWide, ht] at h
  cases v <;> simp_all [Cell.ok]
theorem cell_bool {P : Program} {w : World} {r : Reach} {base : Nat} {t : TypeId} {v : Value} (ht : P.underlying t = some .bool) (h : Cell.okWide P w r base t v) : ∃ n, v = .bool n := by
  simp only [Cell.okWide, ht] at h
  cases v <;> simp_all [Cell.ok]
/-- A slice as a cell: none, or a plain place in a block that is there. -/
def Cut (v : Value) (w : World) : Prop := v = .slice none 0 0 ∨ ∃ b off len cap, v = .slice (some ⟨b, off, none⟩) len cap ∧ len ≤ cap ∧ cap ≤ maxLen ∧ b < w.heap.size
theorem has_lt {P : Program} {w : World} {r : Reach} {base : Nat} {a : Addr} {e : TypeId} {n : Nat} (h : w.has P r base a e n) : a.spot = none ∧ a.block < w.heap.size := by
  obtain ⟨_, hs, row, cells, hsh, _⟩ := h
  refine ⟨hs, ?_⟩
  rcases Nat.lt_or_ge a.block w.heap.size with hl | hl
  · exact hl
  · simp [World.shape?, Array.getElem?_eq_none hl] at hsh
theorem cell_cut {P : Program} {w : World} {r : Reach} {base : Nat} {t e : TypeId} {v : Value} (ht : P.underlying t = some (.slice e)) (h : Cell.okWide P w r base t v) : Cut v w := by
  simp only [Cell.okWide, ht] at h
  have h : Cell.ok P w r base t v := h
  unfold Cell.ok at h
  rw [ht] at h
  split at h <;> try (simp_all; done)
  all_goals first
    | (left; simp_all; done)
    | skip
  all_goals
    rename_i a len cap hq1 hq2
    obtain ⟨h1, h2, h3⟩ := h
    obtain ⟨h4, h5⟩ := has_lt h3
    obtain ⟨b, off, spot⟩ := a
    obtain rfl : spot = none := h4
    right
    refine ⟨b, off, len, cap, rfl, h1, ?_, h5⟩
    unfold maxLen
    have h6 : IntKind.i64.max = 9223372036854775807 := by decide
    omega
section
variable {H : Type} {enc : TypeId × Value → H} {W : World} {fuel : Nat} {v : Value} {x : DataW H × List MemPlace}
theorem sl_strings (hc : Cut v W) (h : DataW.trod enc Try.prog W 0 (fun _ => true) true fuel 23 [v] = some x) : ∃ l : List ByteArray, Sl v 1 l.length (strL l) W ∧ ∀ s ∈ l, s.size ≤ 9223372036854775807 := by
  rcases open_strings Try.underlying23 Try.underlying9 (by kernel_rfl) h with ⟨hcs, _⟩ | ⟨a0, len, cap, ss, hcs, _, hl, hm, hz, _, hcell, hsz⟩
  · obtain rfl : v = .slice none 0 0 := by simpa using hcs
    exact ⟨[], Sl.nil 1 W, fun s hs => by simp at hs⟩
  · obtain rfl : v = .slice (some a0) len cap := by simpa using hcs
    simp only [if_true] at hz
    rcases hc with hc | ⟨b, off, len', cap', hc, _, _, hlt⟩
    · simp at hc
    obtain ⟨rfl, rfl, rfl⟩ : a0 = ⟨b, off, none⟩ ∧ len = len' ∧ cap = cap' := by simpa using hc
    have hn : (ss.take len).length = len := by simp; omega
    refine ⟨ss.take len, ⟨by omega, strL_length _, .inr ⟨b, off, cap, by rw [hn], by omega, hlt, fun i u hu => ?_⟩⟩, fun s hs => hsz s (List.mem_of_mem_take hs)⟩
    have hi : i < len := by
      rcases Nat.lt_or_ge i len with h1 | h1
      · exact h1
      · rw [List.getElem?_eq_none (by rw [strL_length]; omega)] at hu; cases hu
    have hk := hcell i (by omega)
    rw [Addr.add_mid] at hk
    rw [hk]
    simp only [strL, List.getElem?_map, List.getElem?_take, hi, if_true] at hu
    rw [List.getElem?_eq_getElem (show i < ss.length by omega)] at hu
    rw [List.getD, List.getElem?_eq_getElem (show i < ss.length by omega)]
    exact hu
theorem sl_ints (hc : Cut v W) (h : DataW.trod enc Try.prog W 0 (fun _ => true) true fuel 24 [v] = some x) : ∃ l : List Int, Sl v 1 l.length (intL l) W := by
  rcases open_ints Try.underlying24 Try.underlying3 (by kernel_rfl) h with ⟨hcs, _⟩ | ⟨a0, len, cap, ss, hcs, _, hl, hm, hz, _, hcell, hsz⟩
  · obtain rfl : v = .slice none 0 0 := by simpa using hcs
    exact ⟨[], Sl.nil 1 W⟩
  · obtain rfl : v = .slice (some a0) len cap := by simpa using hcs
    simp only [if_true] at hz
    rcases hc with hc | ⟨b, off, len', cap', hc, _, _, hlt⟩
    · simp at hc
    obtain ⟨rfl, rfl, rfl⟩ : a0 = ⟨b, off, none⟩ ∧ len = len' ∧ cap = cap' := by simpa using hc
    have hn : (ss.take len).length = len := by simp; omega
    refine ⟨ss.take len, by omega, intL_length _, .inr ⟨b, off, cap, by rw [hn], by omega, hlt, fun i u hu => ?_⟩⟩
    have hi : i < len := by
      rcases Nat.lt_or_ge i len with h1 | h1
      · exact h1
      · rw [List.getElem?_eq_none (by rw [intL_length]; omega)] at hu; cases hu
    have hk := hcell i (by omega)
    rw [Addr.add_mid] at hk
    rw [hk]
    simp only [intL, List.getElem?_map, List.getElem?_take, hi, if_true] at hu
    rw [List.getElem?_eq_getElem (show i < ss.length by omega)] at hu
    rw [List.getD, List.getElem?_eq_getElem (show i < ss.length by omega)]
    exact hu
theorem flt_cells : Try.prog.cellsOf 29 = 6 := by kernel_rfl
theorem cells_int : Try.prog.cellsOf 3 = 1 := by kernel_rfl
theorem cells_u8 : Try.prog.cellsOf 5 = 1 := by kernel_rfl
set_option maxRecDepth 20000 in
theorem trod_fault {cs : List Value} (h : DataW.trod enc Try.prog W 0 (fun _ => true) true fuel 29 cs = some x) : ∃ f : Flt, cs = f.vals := by
  obtain ⟨xs, n, _, _, hl, hn, hf⟩ := DataW.trod_struct Try.underlying29 h
  rw [flt_cells] at hl
  match cs, hl with
  | [c0, c1, c2, c3, c4, c5], _ =>
    have hxs : ∀ i, i < 6 → ∃ y, xs[i]? = some y := fun i hi => ⟨xs[i]'(by rw [hn]; exact hi), List.getElem?_eq_getElem _⟩
    obtain ⟨y0, e0⟩ := hxs 0 (by decide)
    obtain ⟨y1, e1⟩ := hxs 1 (by decide)
    obtain ⟨y2, e2⟩ := hxs 2 (by decide)
    obtain ⟨y3, e3⟩ := hxs 3 (by decide)
    obtain ⟨y4, e4⟩ := hxs 4 (by decide)
    obtain ⟨y5, e5⟩ := hxs 5 (by decide)
    have k0 := hf 0 _ rfl
    have k1 := hf 1 _ rfl
    have k2 := hf 2 _ rfl
    have k3 := hf 3 _ rfl
    have k4 := hf 4 _ rfl
    have k5 := hf 5 _ rfl
    have k0 : DataW.trod enc Try.prog W 0 (fun _ => true) true n 3 (([c0, c1, c2, c3, c4, c5].drop 0).take (Try.prog.cellsOf 3)) = some y0 := k0.trans e0
    rw [cells_int] at k0
    have k1 : DataW.trod enc Try.prog W 0 (fun _ => true) true n 3 (([c0, c1, c2, c3, c4, c5].drop 1).take (Try.prog.cellsOf 3)) = some y1 := k1.trans e1
    rw [cells_int] at k1
    have k2 : DataW.trod enc Try.prog W 0 (fun _ => true) true n 3 (([c0, c1, c2, c3, c4, c5].drop 2).take (Try.prog.cellsOf 3)) = some y2 := k2.trans e2
    rw [cells_int] at k2
    have k3 : DataW.trod enc Try.prog W 0 (fun _ => true) true n 3 (([c0, c1, c2, c3, c4, c5].drop 3).take (Try.prog.cellsOf 3)) = some y3 := k3.trans e3
    rw [cells_int] at k3
    have k4 : DataW.trod enc Try.prog W 0 (fun _ => true) true n 3 (([c0, c1, c2, c3, c4, c5].drop 4).take (Try.prog.cellsOf 3)) = some y4 := k4.trans e4
    rw [cells_int] at k4
    have k5 : DataW.trod enc Try.prog W 0 (fun _ => true) true n 5 (([c0, c1, c2, c3, c4, c5].drop 5).take (Try.prog.cellsOf 5)) = some y5 := k5.trans e5
    rw [cells_u8] at k5
    obtain ⟨n0, r0, _⟩ := DataW.trod_int Try.underlying3 k0
    obtain ⟨n1, r1, _⟩ := DataW.trod_int Try.underlying3 k1
    obtain ⟨n2, r2, _⟩ := DataW.trod_int Try.underlying3 k2
    obtain ⟨n3, r3, _⟩ := DataW.trod_int Try.underlying3 k3
    obtain ⟨n4, r4, _⟩ := DataW.trod_int Try.underlying3 k4
    obtain ⟨n5, r5, _⟩ := DataW.trod_int Try.underlying5 k5
    obtain rfl : c0 = .int .i64 n0 := (List.cons.inj (show [c0] = [.int .i64 n0] from r0)).1
    obtain rfl : c1 = .int .i64 n1 := (List.cons.inj (show [c1] = [.int .i64 n1] from r1)).1
    obtain rfl : c2 = .int .i64 n2 := (List.cons.inj (show [c2] = [.int .i64 n2] from r2)).1
    obtain rfl : c3 = .int .i64 n3 := (List.cons.inj (show [c3] = [.int .i64 n3] from r3)).1
    obtain rfl : c4 = .int .i64 n4 := (List.cons.inj (show [c4] = [.int .i64 n4] from r4)).1
    obtain rfl : c5 = .int .u8 n5 := (List.cons.inj (show [c5] = [.int .u8 n5] from r5)).1
    exact ⟨⟨n0, n1, n2, n3, n4, n5⟩, rfl⟩
set_option maxRecDepth 20000 in
theorem open_fault {r : Reach} {base : Nat} (h : Value.okWide Try.prog W r base 29 v) (hf : DataW.trod enc Try.prog W 0 (fun _ => true) true fuel 29 v.cells.toList = some x) : ∃ f : Flt, v = .agg f.arr := by
  simp only [Value.okWide, Try.underlying29] at h
  obtain ⟨cs, rfl, _⟩ := h
  obtain ⟨f, e⟩ := trod_fault hf
  exact ⟨f, congrArg Value.agg (Array.ext' e)⟩
theorem sl_faults (hc : Cut v W) (h : DataW.trod enc Try.prog W 0 (fun _ => true) true fuel 25 [v] = some x) : ∃ l : List Flt, Sl v 6 l.length (fltL l) W := by
  rcases Go.Deep.open_slice Try.underlying25 h with ⟨hcs, _⟩ | ⟨a0, len, cap, m, n, D, Pl, hcs, _, hl, hm, hz, _, hcell⟩
  · obtain rfl : v = .slice none 0 0 := by simpa using hcs
    exact ⟨[], Sl.nil 6 W⟩
  · obtain rfl : v = .slice (some a0) len cap := by simpa using hcs
    simp only [if_true] at hz
    rcases hc with hc | ⟨b, off, len', cap', hc, _, _, hlt⟩
    · simp at hc
    obtain ⟨rfl, rfl, rfl⟩ : a0 = ⟨b, off, none⟩ ∧ len = len' ∧ cap = cap' := by simpa using hc
    have each : ∀ i : Fin len, ∃ f : Flt, ∀ j u, f.vals[j]? = some u → W.cell? ⟨b, off + (i.val * 6 + j), none⟩ = some u := fun i => by
      obtain ⟨cs', h1, h2⟩ := hcell i.val (by omega)
      obtain ⟨f, rfl⟩ := trod_fault h2
      refine ⟨f, fun j u hu => ?_⟩
      rw [flt_cells] at h1
      obtain ⟨_, _, h3⟩ := World.cells?_some h1
      have hj : j < 6 := by
        rcases Nat.lt_or_ge j 6 with h4 | h4
        · exact h4
        · rw [List.getElem?_eq_none (by rw [fvals_length]; exact h4)] at hu; cases hu
      have h5 := h3 j hj
      rw [Addr.add_mid, Addr.add_mid, hu] at h5
      rw [← h5, Nat.add_assoc]
    obtain ⟨F, hF⟩ := Classical.axiomOfChoice each
    have hn : (List.ofFn F).length = len := by simp
    refine ⟨List.ofFn F, by omega, fltL_length _, .inr ⟨b, off, cap, by rw [hn], by omega, hlt, fun i u hu => ?_⟩⟩
    have hi : i < len * 6 := by
      rcases Nat.lt_or_ge i (len * 6) with h1 | h1
      · exact h1
      · rw [List.getElem?_eq_none (by rw [fltL_length, hn]; exact h1)] at hu; cases hu
    have hq : i / 6 < len := by omega
    have hr : i % 6 < 6 := Nat.mod_lt _ (by decide)
    have hv : ∃ u', (F ⟨i / 6, hq⟩).vals[i % 6]? = some u' := ⟨_, List.getElem?_eq_getElem (by rw [fvals_length]; exact hr)⟩
    obtain ⟨u', hv⟩ := hv
    have h1 := fltL_at (List.ofFn F) (i / 6) (F ⟨i / 6, hq⟩) (i % 6) u' (by simp [hq]) hv
    have he : i / 6 * 6 + i % 6 = i := by omega
    rw [he, hu] at h1
    obtain rfl := Option.some.inj h1
    have h2 := hF ⟨i / 6, hq⟩ _ _ hv
    simp only [he] at h2
    exact h2
theorem dev_types : Try.prog.cellTypes Try.prog.depth 27 = some [23, 3, 24, 4, 25] := by kernel_rfl
theorem dev_cells : Try.prog.cellsOf 27 = 5 := by kernel_rfl
theorem cells_strs : Try.prog.cellsOf 23 = 1 := by kernel_rfl
theorem cells_ints : Try.prog.cellsOf 24 = 1 := by kernel_rfl
theorem cells_flts : Try.prog.cellsOf 25 = 1 := by kernel_rfl
set_option maxRecDepth 20000 in
theorem open_device {r : Reach} {base : Nat} (h : Value.okWide Try.prog W r base 27 v) (hf : DataW.trod enc Try.prog W 0 (fun _ => true) true fuel 27 v.cells.toList = some x) :
    ∃ vs d, v = .agg vs.toArray ∧ DevV vs d W ∧ FitsD d := by
  simp only [Value.okWide, Try.underlying27] at h
  obtain ⟨cs, rfl, hsz, ts, hts, _, hc⟩ := h
  obtain rfl := Option.some.inj (dev_types.symm.trans hts)
  rw [dev_cells] at hsz
  obtain ⟨l⟩ := cs
  match l, hsz with
  | [a, b, c, d, e], _ =>
    obtain ⟨u0, hu0, k0⟩ := hc 0 a rfl
    obtain ⟨u1, hu1, k1⟩ := hc 1 b rfl
    obtain ⟨u2, hu2, k2⟩ := hc 2 c rfl
    obtain ⟨u3, hu3, k3⟩ := hc 3 d rfl
    obtain ⟨u4, hu4, k4⟩ := hc 4 e rfl
    obtain rfl := Option.some.inj hu0
    obtain rfl := Option.some.inj hu1
    obtain rfl := Option.some.inj hu2
    obtain rfl := Option.some.inj hu3
    obtain rfl := Option.some.inj hu4
    have q0 := cell_cut Try.underlying23 k0
    obtain ⟨n1, rfl⟩ := cell_int Try.underlying3 k1
    have q2 := cell_cut Try.underlying24 k2
    obtain ⟨b3, rfl⟩ := cell_bool Try.underlying4 k3
    have q4 := cell_cut Try.underlying25 k4
    obtain ⟨xs, n, _, _, _, hn, hf⟩ := DataW.trod_struct Try.underlying27 hf
    have hxs : ∀ i, i < 5 → ∃ y, xs[i]? = some y := fun i hi => ⟨xs[i]'(by rw [hn]; exact hi), List.getElem?_eq_getElem _⟩
    obtain ⟨y0, e0⟩ := hxs 0 (by decide)
    obtain ⟨y2, e2⟩ := hxs 2 (by decide)
    obtain ⟨y4, e4⟩ := hxs 4 (by decide)
    have t0 := hf 0 _ rfl
    have t2 := hf 2 _ rfl
    have t4 := hf 4 _ rfl
    have t0 : DataW.trod enc Try.prog W 0 (fun _ => true) true n 23 (([a, .int .i64 n1, c, .bool b3, e].drop 0).take (Try.prog.cellsOf 23)) = some y0 := t0.trans e0
    rw [cells_strs] at t0
    have t2 : DataW.trod enc Try.prog W 0 (fun _ => true) true n 24 (([a, .int .i64 n1, c, .bool b3, e].drop 2).take (Try.prog.cellsOf 24)) = some y2 := t2.trans e2
    rw [cells_ints] at t2
    have t4 : DataW.trod enc Try.prog W 0 (fun _ => true) true n 25 (([a, .int .i64 n1, c, .bool b3, e].drop 4).take (Try.prog.cellsOf 25)) = some y4 := t4.trans e4
    rw [cells_flts] at t4
    obtain ⟨ps, s0, hfit⟩ := sl_strings q0 t0
    obtain ⟨us, s2⟩ := sl_ints q2 t2
    obtain ⟨fs, s4⟩ := sl_faults q4 t4
    exact ⟨dvals a n1 c b3 e, ⟨ps, n1, us, b3, fs⟩, rfl, ⟨a, c, e, rfl, s0, s2, s4⟩, hfit⟩
end
end Go.Proofs.Ytikpchhhenonaaa.nu
