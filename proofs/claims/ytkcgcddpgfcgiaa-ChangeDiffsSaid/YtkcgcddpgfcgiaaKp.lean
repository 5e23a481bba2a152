/- Diff: the parts of the program. -/
import Derived.Test.YtkcgcddpgfcgiaaKn
namespace Go.Proofs.Ytkcgcddpgfcgiaa.kp
open Go.ChangeShapes Go.WideShapes Go.ChangeAt Go.RowKit Go.Proofs.Ytkcgcddpgfcgiaa.cx Go.Proofs.Ytkcgcddpgfcgiaa.ra Go.Proofs.Ytkcgcddpgfcgiaa.rc Go.Proofs.Ytkcgcddpgfcgiaa.da Go.Proofs.Ytkcgcddpgfcgiaa.di Go.Proofs.Ytkcgcddpgfcgiaa.ea Go.Proofs.Ytkcgcddpgfcgiaa.eb Go.Proofs.Ytkcgcddpgfcgiaa.ec Go.Proofs.Ytkcgcddpgfcgiaa.ed Go.Proofs.Ytkcgcddpgfcgiaa.fb Go.Proofs.Ytkcgcddpgfcgiaa.ka Go.Proofs.Ytkcgcddpgfcgiaa.kb Go.Proofs.Ytkcgcddpgfcgiaa.kc Go.Proofs.Ytkcgcddpgfcgiaa.kd Go.Proofs.Ytkcgcddpgfcgiaa.ke Go.Proofs.Ytkcgcddpgfcgiaa.kf Go.Proofs.Ytkcgcddpgfcgiaa.kg Go.Proofs.Ytkcgcddpgfcgiaa.ki Go.Proofs.Ytkcgcddpgfcgiaa.kj Go.Proofs.Ytkcgcddpgfcgiaa.kk Go.Proofs.Ytkcgcddpgfcgiaa.km Go.Proofs.Ytkcgcddpgfcgiaa.kn

theorem wp_boxCellsW {ops : Array Oper} {rest : List Oper} {o : Oper} {a : Act} {w : World} {Q : Exit → Act → World → Prop} {x : Operand} (p : Pg) (ho : o.op = .box 25 x) (hx : a.eval x = .agg p.cellArr)
    (hgd : Region.wanted o (yielded ops a.tmps) = true) (h : ∀ W, RowAt w.heap.size (cellVals p.cell 16) W → Below w.heap.size w W → w.heap.size < W.heap.size → wpList Try.prog ops Q rest (a.put o.dst (.pointer (some ⟨w.heap.size, 0, none⟩))) W) : wpList Try.prog ops Q (o :: rest) a w :=
  wp_box (cellVals p.cell 16) _ ho hx hgd (h _ (RowAt.new _ _ _) ((Below.refl _ _).alloc (Nat.le_refl _) _) (by simp))
theorem wp_loadCells0 {ops : Array Oper} {rest : List Oper} {o : Oper} {a : Act} {w : World} {Q : Exit → Act → World → Prop} {x : Operand} {b : Nat} (p : Pg) (hp : RowAt b (cellVals p.cell 16) w) (ho : o.op = .load 25 x)
    (hx : a.eval x = .pointer (some ⟨b, 0, none⟩)) (hgd : Region.wanted o (yielded ops a.tmps) = true) (h : wpList Try.prog ops Q rest (a.put o.dst (.agg p.cellArr)) w) : wpList Try.prog ops Q (o :: rest) a w :=
  wp_load (cellVals p.cell 16) 25 _ hp Try.underlying25 rfl (by rw [cellVals_length]; exact info_cells) (fun j v hv => by rw [Nat.zero_add]; exact hv) ho hx hgd h
/-- Are the cells valid ones? -/
def vcB (p : Pg) : Bool := (List.range 16).all fun i => cellB (p.cell i)
theorem vcB_iff {p : Pg} : vcB p = true ↔ ∀ i, i < 16 → cellB (p.cell i) = true := by
  unfold vcB
  simp [List.all_eq_true]
theorem vcB_no {p : Pg} {i : Nat} (hi : i < 16) (h : cellB (p.cell i) = false) : vcB p = false := by
  cases e : vcB p with
  | false => rfl
  | true => rw [vcB_iff.1 e i hi] at h; cases h
set_option maxRecDepth 4000 in
set_option maxHeartbeats 2000000 in
theorem validCells_any (p : Pg) (w : World) (hf : Fits p) :
    Calls Try.prog 37 #[.agg p.cellArr] w fun e w' => e = .returned (.bool (vcB p)) ∧ Below w.heap.size w w' := by
  go_enter Try.func37, Try.ntmps37
  go_wp2_with (first
    | (refine wp_boxCellsW p rfl rfl rfl ?_; intro w0 hP hb0 _; have S1 := Lib.hid ((st_nil (Below.refl w.heap.size w)).first hb0 hP); clear hP hb0)
    | (refine wp_loadCells0 p (S1.out.row (List.mem_cons_self ..)) rfl rfl rfl ?_))
  go_loopw [6] (fun v wr => ∃ j : Nat, j ≤ 16 ∧ v = .int .i64 j ∧ (∀ i, i < j → cellB (p.cell i) = true) ∧ St [] w wr) (fun v _ => 16 - (intOf v).toNat)
  case atStart => exact ⟨0, by omega, rfl, fun i hi => by omega, S1.out.sub (by simp)⟩
  case round =>
    obtain ⟨j, hj, rfl, h1, h2⟩ := hrel
    have HV := Lib.hid h1
    have S2 := Lib.hid h2
    clear S1 h1 h2
    by_cases hjn : j < 16
    · have ix := run_index_cells p j hjn
      have q0 : (0 : Int) ≤ (j : Int) := by omega
      have q1 : (j : Int) < 16 := by omega
      have hfj := hf j hjn
      cases hb : cellB (p.cell j)
      all_goals
        have HB := Lib.hid hb
        clear hb
        go_wp2_with (first
          | (have _t := S2.out; refine wp_newCellW rfl rfl ?_; intro w3 hP hb _; have N3 := Lib.hid hP; have M3 := Lib.hid hb; clear hP hb _t)
          | (refine wp_storeCellW (p.cell j) N3.out (show 0 + 2 ≤ 2 by decide) rfl rfl rfl rfl ?_; intro w4 hP hS; have i1 := hP.cells 0 _ rfl; have i2 := hP.cells 1 _ rfl; have S4 : Hid (St [] w w4) := Lib.hid ⟨(by simp), hS.below (S2.out.keep M3.out).2 S2.out.2.size⟩; clear hP hS S2 N3 M3)
          | (go_at_call 19; (with_reducible refine (validCell_b (p.cell j) _ HB.out _ hfj).mono ?_); rintro e w5 ⟨rfl, hb⟩; have S5 := Lib.hid (S4.out.keep hb); clear hb S4 i1 i2))
      · go_ret
        exact ⟨by rw [vcB_no hjn HB.out]; rfl, S5.out.2⟩
      · go_roundw
        case rel => exact ⟨j + 1, by omega, by go_num, fun i hi => by
          by_cases e : i = j
          · subst e; exact HB.out
          · exact HV.out i (by omega), S5.out⟩
        case measure => simp [intOf]; omega
    · have hj16 : j = 16 := by omega
      subst hj16
      go_wp2_with fail
      go_ret
      exact ⟨by rw [vcB_iff.2 HV.out]; rfl, S2.out.2⟩
theorem validCells_b (p : Pg) (b : Bool) (h : vcB p = b) (w : World) (hf : Fits p) :
    Calls Try.prog 37 #[.agg p.cellArr] w fun e w' => e = .returned (.bool b) ∧ Below w.heap.size w w' := h ▸ validCells_any p w hf
/-- Why no changes lead from a to b. -/
def diffE (a b : Pg) : Int := if (a.id != b.id) = true then 6 else if idB a.id = true then (if vcB a = true then (if vcB b = true then 0 else 22) else 22) else 1
set_option maxRecDepth 4000 in
set_option maxHeartbeats 2000000 in
theorem diffError_any (a b : Pg) (w : World) (ha : Fits a) (hb : Fits b) :
    Calls Try.prog 35 #[.agg a.arr, .agg b.arr] w fun e w' => e = .returned (.int .i64 (diffE a b)) ∧ Below w.heap.size w w' := by
  unfold diffE
  cases h1 : (a.id != b.id) <;> cases h2 : idB a.id <;> cases h3 : vcB a <;> cases h4 : vcB b
  all_goals
    have H2 := Lib.hid h2
    have H3 := Lib.hid h3
    have H4 := Lib.hid h4
    clear h2 h3 h4
    go_enter Try.func35, Try.ntmps35
    go_wp2_with (first
      | (refine wp_boxPageW a rfl rfl rfl ?_; intro w0 hP hb0 _; have S1 := Lib.hid ((st_nil (Below.refl w.heap.size w)).first hb0 hP); clear hP hb0)
      | (refine wp_boxPageW b rfl rfl rfl ?_; intro w1 hP hb0 _; have S2 := Lib.hid (S1.out.first hb0 hP); have i0 := PgAt.idAt (p := b) (S2.out.row (List.mem_cons_self ..)); have i1 := PgAt.idAt (p := a) (S2.out.row (List.mem_cons_of_mem _ (List.mem_cons_self ..))); clear hP hb0)
      | (go_at_call 32; (with_reducible refine (validPage_b a.id _ H2.out _).mono ?_); rintro e w3 ⟨rfl, rfl⟩)
      | (refine wp_loadCells a (S2.out.row (vs := a.vals) (List.mem_cons_of_mem _ (List.mem_cons_self ..))) rfl rfl rfl ?_)
      | (refine wp_loadCells b (S4.out.row (vs := b.vals) (List.mem_cons_self ..)) rfl rfl rfl ?_)
      | (go_at_call 37; (with_reducible refine (validCells_b a _ H3.out _ ha).mono ?_); rintro e w4 ⟨rfl, hb4⟩; have S4 := Lib.hid (S2.out.keep hb4); clear hb4 S1)
      | (go_at_call 37; (with_reducible refine (validCells_b b _ H4.out _ hb).mono ?_); rintro e w5 ⟨rfl, hb5⟩; have S5 := Lib.hid (S4.out.keep hb5); clear hb5))
    go_ret
    first
      | exact ⟨rfl, S5.out.2⟩
      | exact ⟨rfl, S4.out.2⟩
      | exact ⟨rfl, S2.out.2⟩
theorem diffError_b (a b : Pg) (n : Int) (h : diffE a b = n) (w : World) (ha : Fits a) (hb : Fits b) :
    Calls Try.prog 35 #[.agg a.arr, .agg b.arr] w fun e w' => e = .returned (.int .i64 n) ∧ Below w.heap.size w w' := h ▸ diffError_any a b w ha hb
end Go.Proofs.Ytkcgcddpgfcgiaa.kp
