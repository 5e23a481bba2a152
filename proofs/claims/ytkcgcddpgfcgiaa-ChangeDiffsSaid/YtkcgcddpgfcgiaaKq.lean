/- Diff: the changes from one page to another one. -/
import Derived.Test.YtkcgcddpgfcgiaaKp
namespace Go.Proofs.Ytkcgcddpgfcgiaa.kq
open Go.ChangeShapes Go.WideShapes Go.ChangeAt Go.RowKit Go.Proofs.Ytkcgcddpgfcgiaa.cx Go.Proofs.Ytkcgcddpgfcgiaa.ra Go.Proofs.Ytkcgcddpgfcgiaa.rc Go.Proofs.Ytkcgcddpgfcgiaa.da Go.Proofs.Ytkcgcddpgfcgiaa.di Go.Proofs.Ytkcgcddpgfcgiaa.ea Go.Proofs.Ytkcgcddpgfcgiaa.eb Go.Proofs.Ytkcgcddpgfcgiaa.ec Go.Proofs.Ytkcgcddpgfcgiaa.ed Go.Proofs.Ytkcgcddpgfcgiaa.fb Go.Proofs.Ytkcgcddpgfcgiaa.ka Go.Proofs.Ytkcgcddpgfcgiaa.kb Go.Proofs.Ytkcgcddpgfcgiaa.kc Go.Proofs.Ytkcgcddpgfcgiaa.kd Go.Proofs.Ytkcgcddpgfcgiaa.ke Go.Proofs.Ytkcgcddpgfcgiaa.kf Go.Proofs.Ytkcgcddpgfcgiaa.kg Go.Proofs.Ytkcgcddpgfcgiaa.ki Go.Proofs.Ytkcgcddpgfcgiaa.kj Go.Proofs.Ytkcgcddpgfcgiaa.kk Go.Proofs.Ytkcgcddpgfcgiaa.km Go.Proofs.Ytkcgcddpgfcgiaa.kn Go.Proofs.Ytkcgcddpgfcgiaa.kp

theorem page_cell (p : Pg) (i : Nat) (hi : i < 16) (j : Nat) (v : Value) (hv : (p.cell i).vals[j]? = some v) : p.vals[2 + i * 2 + j]? = some v := by
  match j, hv with
  | 0, hv => rw [Nat.add_zero, vals_set p i hi]; exact hv
  | 1, hv => rw [vals_data p i hi]; exact hv
theorem wp_loadCellAt {ops : Array Oper} {rest : List Oper} {o : Oper} {a : Act} {w : World} {Q : Exit → Act → World → Prop} {x : Operand} {b : Nat} {vs : List Value} (c : CellM) (f : Nat) (hr : RowAt b vs w) (hp : ∀ j v, c.vals[j]? = some v → vs[f + j]? = some v) (ho : o.op = .load 24 x)
    (hx : a.eval x = .pointer (some ⟨b, f, none⟩)) (hgd : Region.wanted o (yielded ops a.tmps) = true) (h : wpList Try.prog ops Q rest (a.put o.dst (.agg #[.bool c.set, .string c.data])) w) : wpList Try.prog ops Q (o :: rest) a w :=
  wp_load c.vals 24 _ hr Try.underlying24 rfl info_cell hp ho hx hgd h
theorem _root_.Go.Proofs.Ytkcgcddpgfcgiaa.ki.St.pushAt {l : List (Nat × List Value)} {w W W' W2 : World} {vs : List Value} (h : St l w W) (hb : Below W.heap.size W W') (hP : RowAt W.heap.size vs W2) (hS : StoredAt W.heap.size W' W2) : St ((W.heap.size, vs) :: l) w W2 :=
  St.add ⟨fun x hx => hS.row ((h.keep hb).1 x hx) (h.ne x hx), hS.below (h.keep hb).2 h.2.size⟩ hP
theorem own_storedNe {w w' : World} {base n size b : Nat} {e : TypeId} {v : Value} {xs : List Value} (h : w.ownsRow base e size v n xs) (hs : StoredAt b w w') (hne : ∀ g, v.ownBlock = some g → g ≠ b) : w'.ownsRow base e size v n xs :=
  own_heap h fun g hg => by
    obtain ⟨f, us, rfl⟩ := hs
    exact setCells_heap b g (fun e => hne g hg e.symm) us f w
theorem own_base {w : World} {base base' n size : Nat} {e : TypeId} {v : Value} {xs : List Value} (h : w.ownsRow base e size v n xs) (hb : base' ≤ base) : w.ownsRow base' e size v n xs := by
  refine ⟨h.1, ?_⟩
  rcases h.2 with h2 | ⟨g, cap, cur, rfl, h3, h4⟩
  · exact .inl h2
  · exact .inr ⟨g, cap, cur, rfl, Nat.le_trans hb h3, h4⟩
/-- The changes at the first n slots. -/
def diffN (a b : Pg) (n : Nat) : List Chg := (List.range n).filterMap fun i => if sameC (a.cell i) (b.cell i) = true then none else some ⟨a.id, (i : Int), a.cell i, b.cell i⟩
theorem diffN_same {a b : Pg} {n : Nat} (h : sameC (a.cell n) (b.cell n) = true) : diffN a b (n + 1) = diffN a b n := by
  unfold diffN
  rw [List.range_succ, List.filterMap_append]
  simp [h]
theorem diffN_other {a b : Pg} {n : Nat} (h : sameC (a.cell n) (b.cell n) = false) : diffN a b (n + 1) = diffN a b n ++ [⟨a.id, (n : Int), a.cell n, b.cell n⟩] := by
  unfold diffN
  rw [List.range_succ, List.filterMap_append]
  simp [h]
theorem diffN_len (a b : Pg) : ∀ n, (diffN a b n).length ≤ n
  | 0 => by simp [diffN]
  | n + 1 => by
    have ih := diffN_len a b n
    cases h : sameC (a.cell n) (b.cell n)
    · rw [diffN_other h, List.length_append]; simp; omega
    · rw [diffN_same h]; omega
set_option maxRecDepth 4000 in
set_option maxHeartbeats 4000000 in
theorem differences_any (a b : Pg) (w : World) :
    Calls Try.prog 36 #[.agg a.arr, .agg b.arr] w fun e w' => ∃ v, e = .returned v ∧ w'.ownsRow w.heap.size 29 6 v (diffN a b 16).length (flat (diffN a b 16)) ∧ Below w.heap.size w w' := by
  go_enter Try.func36, Try.ntmps36
  go_wp2_with (first
    | (refine wp_boxPageW a rfl rfl rfl ?_; intro w0 hP hb0 hz0; have S1 := Lib.hid ((st_nil (Below.refl w.heap.size w)).first hb0 hP); have Z0 := Lib.hid hz0; clear hP hb0 hz0)
    | (refine wp_boxPageW b rfl rfl rfl ?_; intro w1 hP hb0 hz0; have S2 := Lib.hid (S1.out.first hb0 hP); have Z1 := Lib.hid hz0; clear hP hb0 hz0 S1)
    | (refine wp_loadCells a (S2.out.row (vs := a.vals) (List.mem_cons_of_mem _ (List.mem_cons_self ..))) rfl rfl rfl ?_))
  have hz0 := Z0.out
  have hz1 : w0.heap.size + 1 ≤ w1.heap.size := Z1.out
  generalize w0.heap.size = x1 at *
  clear Z0 Z1
  have OWN0 := Lib.hid (World.ownsRow_nil w1 (x1 + 1) 29 6)
  go_loopw [5, 11] (fun v i wr => ∃ j : Nat, j ≤ 16 ∧ i = .int .i64 j ∧ x1 + 1 ≤ wr.heap.size ∧ St [(x1, b.vals), (w.heap.size, a.vals)] w wr ∧ wr.ownsRow (x1 + 1) 29 6 v (diffN a b j).length (flat (diffN a b j))) (fun _ i _ => 16 - (intOf i).toNat)
  case atStart => exact ⟨0, by omega, rfl, hz1, S2.out, OWN0.out⟩
  case round =>
    obtain ⟨j, hj, rfl, hsz, h1, h2⟩ := hrel
    have S3 := Lib.hid h1
    have O3 := Lib.hid h2
    clear S2 OWN0 h1 h2 hz1
    by_cases hjn : j < 16
    · have ix := run_index_cells a j hjn
      have q0 : (0 : Int) ≤ (j : Int) := by omega
      have q1 : (j : Int) < 16 := by omega
      have hne := cell_neq (a.cell j) (b.cell j)
      have bc := build_chg a.id j (a.cell j) (b.cell j)
      have PC := Lib.hid (page_cell b j hjn)
      have HLEN := Lib.hid (diffN_len a b j)
      cases hs : sameC (a.cell j) (b.cell j)
      all_goals
        rw [hs] at hne
        have HS := Lib.hid hs
        clear hs
        go_wp2_with (first
          | (have _t := S3.out; refine wp_newCellW rfl rfl ?_; intro w4 hP hb _; have N4 := Lib.hid hP; have M4 := Lib.hid hb; have O4 := Lib.hid (own_keep O3.out hb); have Q4 := Lib.hid (own_less O3.out); clear hP hb _t O3)
          | (refine wp_storeCellW (a.cell j) N4.out (show 0 + 2 ≤ 2 by decide) rfl rfl rfl rfl ?_; intro w5 hP hS; have hrow : RowAt wr.heap.size (a.cell j).vals w5 := hP; have S5 := Lib.hid (S3.out.pushAt M4.out hrow hS); have O5 := Lib.hid (own_storedNe O4.out hS Q4.out); have Z5 : Hid (x1 + 1 ≤ w5.heap.size) := Lib.hid (Nat.le_trans hsz (by have h1 := M4.out.size; have h2 := hS.size; omega)); clear hP hS hrow S3 N4 M4 O4 Q4)
          | (refine wp_loadCellAt (b.cell j) (2 + j * 2) (S5.out.row (b := x1) (vs := b.vals) (List.mem_cons_of_mem _ (List.mem_cons_self ..))) PC.out rfl rfl rfl ?_)
          | (have _t := S5.out; refine wp_newCellW rfl rfl ?_; intro w6 hP hb _; have N6 := Lib.hid hP; have M6 := Lib.hid hb; have O6 := Lib.hid (own_keep O5.out hb); have Q6 := Lib.hid (own_less O5.out); clear hP hb _t O5)
          | (refine wp_storeCellW (b.cell j) N6.out (show 0 + 2 ≤ 2 by decide) rfl rfl rfl rfl ?_; intro w7 hP hS; have hrow : RowAt w5.heap.size (b.cell j).vals w7 := hP; have S7 := Lib.hid (S5.out.pushAt M6.out hrow hS); have O7 := Lib.hid (own_storedNe O6.out hS Q6.out); have Z7 : Hid (x1 + 1 ≤ w7.heap.size) := Lib.hid (Nat.le_trans Z5.out (by have h1 := M6.out.size; have h2 := hS.size; omega)); have i0 := PgAt.idAt (p := a) (S7.out.row (b := w.heap.size) (by simp)); clear hP hS hrow S5 N6 M6 O6 Q6)
          | (refine wp_loadCellAt (a.cell j) 0 (S7.out.row (b := wr.heap.size) (vs := (a.cell j).vals) (List.mem_cons_of_mem _ (List.mem_cons_self ..))) (fun t v hv => by rw [Nat.zero_add]; exact hv) rfl rfl rfl ?_)
          | (refine wp_loadCellAt (b.cell j) 0 (S7.out.row (vs := (b.cell j).vals) (List.mem_cons_self ..)) (fun t v hv => by rw [Nat.zero_add]; exact hv) rfl rfl rfl ?_)
          | (refine wpList_plain rfl fun _ hK => op_one ⟨a.id, (j : Int), a.cell j, b.cell j⟩ rfl rfl (fun w8 hT hb => hK _ _ ?_); have S8 := Lib.hid ((S7.out.sub (l' := [(x1, b.vals), (w.heap.size, a.vals)]) (by simp)).keep hb); have O8 := Lib.hid (own_keep O7.out hb); have T8 := Lib.hid hT; have Z8 : Hid (x1 + 1 ≤ w8.heap.size) := Lib.hid (Nat.le_trans Z7.out hb.size); clear hK hT hb S7 O7)
          | (refine wpList_plain rfl fun _ hK => op_append (x1 + 1) _ _ _ ⟨a.id, (j : Int), a.cell j, b.cell j⟩ _ rfl rfl rfl O8.out T8.out (by have := HLEN.out; omega) Z8.out (fun g cap w9 hO hg hgl => hK _ _ ?_); have O9 := Lib.hid hO; have Z9 : Hid (x1 + 1 ≤ w9.heap.size) := Lib.hid (Nat.le_trans Z8.out hg.size); have S9 := Lib.hid (S8.out.grownRow hg (fun x hx e => by have h1 := (O8.out.lt _ e).1; simp only [List.mem_cons, List.not_mem_nil, or_false] at hx; rcases hx with rfl | rfl <;> simp only at h1 <;> omega) (fun k e => by have h1 := (O8.out.lt k e).1; omega)); clear hK hO hg hgl S8 O8 T8))
        go_roundw
      case rel => exact ⟨j + 1, by omega, by go_num, Z9.out, S9.out, by rw [diffN_other HS.out, List.length_append, flat_snoc]; exact O9.out⟩
      case measure => simp [intOf]; omega
      case rel => exact ⟨j + 1, by omega, by go_num, Z7.out, S7.out.sub (by simp), by rw [diffN_same HS.out]; exact O7.out⟩
      case measure => simp [intOf]; omega
    · have hj16 : j = 16 := by omega
      subst hj16
      go_wp2_with fail
      go_ret
      exact ⟨_, rfl, own_base O3.out (by omega), S3.out.2⟩
end Go.Proofs.Ytkcgcddpgfcgiaa.kq
