/- A page as an argument: its cells; a copy of it in memory. -/
import Derived.Test.YtkcgcddpgfcgiaaDoorSt
import Derived.Test.YtkcgcddpgfcgiaaDoorEd
namespace Go.Proofs.YtkcgcddpgfcgiaaDoor.pa
open Go.ChangeShapes Go.WideShapes Go.ChangeAt Go.RowKit Go.Proofs.YtkcgcddpgfcgiaaDoor.ra Go.Proofs.YtkcgcddpgfcgiaaDoor.da Go.Proofs.YtkcgcddpgfcgiaaDoor.di Go.Proofs.YtkcgcddpgfcgiaaDoor.fb Go.Proofs.YtkcgcddpgfcgiaaDoor.st

theorem wp_box {ops : Array Oper} {rest : List Oper} {o : Oper} {a : Act} {w : World} {Q : Exit → Act → World → Prop} {x : Operand} (vs : List Value) (ty : TypeId) (ho : o.op = .box ty x) (hx : a.eval x = .agg vs.toArray)
    (hgd : Region.wanted o (yielded ops a.tmps) = true) (hn : wpList Tryd.prog ops Q rest (a.put o.dst (.pointer (some ⟨w.heap.size, 0, none⟩))) (w.alloc (.cells vs.toArray ty))) : wpList Tryd.prog ops Q (o :: rest) a w :=
  wpList_step fun _ hK => by
    rw [if_pos hgd]
    unfold Oper.wp execOp
    simp only [ho]
    simp [Instr.box, hx, newVar, newRow, Value.cells]
    exact hK _ _ hn
theorem wp_boxPageW {ops : Array Oper} {rest : List Oper} {o : Oper} {a : Act} {w : World} {Q : Exit → Act → World → Prop} {x : Operand} (p : Pg) (ho : o.op = .box 27 x) (hx : a.eval x = .agg p.arr)
    (hgd : Region.wanted o (yielded ops a.tmps) = true) (h : ∀ W, PgAt w.heap.size p W → Below w.heap.size w W → w.heap.size < W.heap.size → wpList Tryd.prog ops Q rest (a.put o.dst (.pointer (some ⟨w.heap.size, 0, none⟩))) W) : wpList Tryd.prog ops Q (o :: rest) a w :=
  wp_box p.vals _ ho hx hgd (h _ (PgAt.new _ _ _) ((Below.refl _ _).alloc (Nat.le_refl _) _) (by simp))
theorem cell_int {P : Program} {w : World} {r : Reach} {base : Nat} {t : TypeId} {k : IntKind} {v : Value} (ht : P.underlying t = some (.int k)) (h : Cell.okWide P w r base t v) : ∃ n, v = .int k n := by
  simp only [Cell.okWide, ht] at h
  cases v <;> simp_all [Cell.ok]
theorem cell_bool {P : Program} {w : World} {r : Reach} {base : Nat} {t : TypeId} {v : Value} (ht : P.underlying t = some .bool) (h : Cell.okWide P w r base t v) : ∃ n, v = .bool n := by
  simp only [Cell.okWide, ht] at h
  cases v <;> simp_all [Cell.ok]
theorem cell_str {P : Program} {w : World} {r : Reach} {base : Nat} {t : TypeId} {v : Value} (ht : P.underlying t = some .string) (h : Cell.okWide P w r base t v) : ∃ s, v = .string s ∧ s.size ≤ 9223372036854775807 := by
  simp only [Cell.okWide, ht] at h
  cases v <;> simp_all [Cell.ok]
  omega
def pageTypes : List TypeId := [3, 3] ++ (List.replicate 16 [4, 9]).flatten
theorem page_types : Tryd.prog.cellTypes Tryd.prog.depth 27 = some pageTypes := by kernel_rfl
theorem page_cells : Tryd.prog.cellsOf 27 = 34 := by kernel_rfl
theorem types_at : ∀ i, i < 16 → pageTypes[2 + i * 2]? = some 4 ∧ pageTypes[2 + i * 2 + 1]? = some 9 := by decide
theorem open_page {W : World} {r : Reach} {base : Nat} {v : Value} (h : Value.okWide Tryd.prog W r base 27 v) : ∃ p : Pg, v = .agg p.arr ∧ Fits p := by
  simp only [Value.okWide, Tryd.underlying27] at h
  obtain ⟨cs, rfl, hsz, ts, hts, _, hc⟩ := h
  obtain rfl : pageTypes = ts := Option.some.inj (page_types.symm.trans hts)
  rw [page_cells] at hsz
  have hat : ∀ i, i < 34 → ∃ v u, cs[i]? = some v ∧ pageTypes[i]? = some u ∧ Cell.okWide Tryd.prog W r base u v := fun i hi => by
    have hg : cs[i]? = some (cs[i]'(by omega)) := Array.getElem?_eq_getElem (by omega)
    obtain ⟨u, hu, hk⟩ := hc i _ hg
    rw [show pageTypes.length = 34 from rfl, Nat.mod_eq_of_lt hi] at hu
    exact ⟨_, u, hg, hu, hk⟩
  have h0 : ∃ n, cs[0]? = some (.int .i64 n) := by
    obtain ⟨v, u, hv, hu, hk⟩ := hat 0 (by decide)
    obtain rfl : 3 = u := Option.some.inj hu
    obtain ⟨n, rfl⟩ := cell_int Tryd.underlying3 hk
    exact ⟨n, hv⟩
  have h1 : ∃ n, cs[1]? = some (.int .i64 n) := by
    obtain ⟨v, u, hv, hu, hk⟩ := hat 1 (by decide)
    obtain rfl : 3 = u := Option.some.inj hu
    obtain ⟨n, rfl⟩ := cell_int Tryd.underlying3 hk
    exact ⟨n, hv⟩
  have hb : ∀ i : Fin 16, ∃ b, cs[2 + i.val * 2]? = some (.bool b) := fun i => by
    obtain ⟨v, u, hv, hu, hk⟩ := hat (2 + i.val * 2) (by omega)
    obtain rfl : 4 = u := Option.some.inj ((types_at i.val i.isLt).1.symm.trans hu)
    obtain ⟨n, rfl⟩ := cell_bool Tryd.underlying4 hk
    exact ⟨n, hv⟩
  have hs : ∀ i : Fin 16, ∃ s, cs[2 + i.val * 2 + 1]? = some (.string s) ∧ s.size ≤ 9223372036854775807 := fun i => by
    obtain ⟨v, u, hv, hu, hk⟩ := hat (2 + i.val * 2 + 1) (by omega)
    obtain rfl : 9 = u := Option.some.inj ((types_at i.val i.isLt).2.symm.trans hu)
    obtain ⟨n, rfl, hn⟩ := cell_str Tryd.underlying9 hk
    exact ⟨n, hv, hn⟩
  obtain ⟨n0, h0⟩ := h0
  obtain ⟨n1, h1⟩ := h1
  obtain ⟨fb, hb⟩ := Classical.axiomOfChoice hb
  obtain ⟨fs, hs⟩ := Classical.axiomOfChoice hs
  refine ⟨⟨n0, n1, fun i => if h : i < 16 then ⟨fb ⟨i, h⟩, fs ⟨i, h⟩⟩ else noCell⟩, ?_, fun i hi => ?_⟩
  · congr 1
    apply Array.ext'
    apply List.ext_getElem?
    intro i
    show cs.toList[i]? = (Pg.vals _)[i]?
    rw [Array.getElem?_toList]
    rcases Nat.lt_or_ge i 34 with hi | hi
    · rcases Nat.lt_or_ge i 2 with h2 | h2
      · obtain rfl | rfl : i = 0 ∨ i = 1 := by omega
        · rw [h0, vals_id]
        · rw [h1, vals_lsn]
      · obtain ⟨k, hk, he⟩ : ∃ k, k < 16 ∧ (i = 2 + k * 2 ∨ i = 2 + k * 2 + 1) := ⟨(i - 2) / 2, by omega, by omega⟩
        rcases he with rfl | rfl
        · rw [hb ⟨k, hk⟩, vals_set _ k hk]
          simp [hk]
        · rw [(hs ⟨k, hk⟩).1, vals_data _ k hk]
          simp [hk]
    · rw [Array.getElem?_eq_none (by omega), List.getElem?_eq_none (by rw [vals_length]; omega)]
  · simp only [hi, dif_pos]
    exact (hs ⟨i, hi⟩).2
end Go.Proofs.YtkcgcddpgfcgiaaDoor.pa
