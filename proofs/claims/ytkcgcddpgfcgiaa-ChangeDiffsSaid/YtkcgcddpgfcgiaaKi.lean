/- Live struct variables as one list; single operations on them; the facts of a change and its inverse. -/
import Derived.Test.YtkcgcddpgfcgiaaKg
import Derived.Deep.RegionHeld
import Derived.BigRegion
namespace Go.Proofs.Ytkcgcddpgfcgiaa.ki
open Go.ChangeShapes Go.WideShapes Go.ChangeAt Go.RowKit Go.Proofs.Ytkcgcddpgfcgiaa.cx Go.Proofs.Ytkcgcddpgfcgiaa.ra Go.Proofs.Ytkcgcddpgfcgiaa.rc Go.Proofs.Ytkcgcddpgfcgiaa.da Go.Proofs.Ytkcgcddpgfcgiaa.di Go.Proofs.Ytkcgcddpgfcgiaa.ea Go.Proofs.Ytkcgcddpgfcgiaa.eb Go.Proofs.Ytkcgcddpgfcgiaa.ec Go.Proofs.Ytkcgcddpgfcgiaa.ed Go.Proofs.Ytkcgcddpgfcgiaa.fb Go.Proofs.Ytkcgcddpgfcgiaa.ka Go.Proofs.Ytkcgcddpgfcgiaa.kb Go.Proofs.Ytkcgcddpgfcgiaa.kc Go.Proofs.Ytkcgcddpgfcgiaa.kd Go.Proofs.Ytkcgcddpgfcgiaa.ke Go.Proofs.Ytkcgcddpgfcgiaa.kf Go.Proofs.Ytkcgcddpgfcgiaa.kg

/-- These variables live, and nothing of w has turned. -/
def St (l : List (Nat × List Value)) (w W : World) : Prop := (∀ x ∈ l, RowAt x.1 x.2 W) ∧ Below w.heap.size w W
theorem St.keep {l : List (Nat × List Value)} {w W W' : World} (h : St l w W) (hb : Below W.heap.size W W') : St l w W' :=
  ⟨fun x hx => (h.1 x hx).keep hb, h.2.trans (hb.mono h.2.size)⟩
theorem St.drew {l : List (Nat × List Value)} {w W : World} (h : St l w W) : St l w W.drew := ⟨fun x hx => (h.1 x hx).drew, h.2.drew⟩
theorem St.row {l : List (Nat × List Value)} {w W : World} (h : St l w W) {b : Nat} {vs : List Value} (hx : (b, vs) ∈ l) : RowAt b vs W := h.1 _ hx
theorem St.sub {l l' : List (Nat × List Value)} {w W : World} (h : St l w W) (hs : ∀ x ∈ l', x ∈ l) : St l' w W := ⟨fun x hx => h.1 x (hs x hx), h.2⟩
/-- A new variable, then stored. -/
theorem St.push {l : List (Nat × List Value)} {w W W' W2 : World} {vs : List Value} (h : St l w W) (hb : Below W.heap.size W W') (hP : RowAt W.heap.size vs W2) (hS : Stored W.heap.size W' W2) : St ((W.heap.size, vs) :: l) w W2 := by
  refine ⟨fun x hx => ?_, hS.below (h.2.trans (hb.mono h.2.size)) h.2.size⟩
  rcases List.mem_cons.1 hx with rfl | hx
  · exact hP
  · exact hS.row ((h.1 x hx).keep hb) (Nat.ne_of_gt (h.1 x hx).lt)
theorem St.stored {l : List (Nat × List Value)} {w W W2 : World} {b : Nat} (h : St l w W) (hne : ∀ x ∈ l, b ≠ x.1) (hB : w.heap.size ≤ b) (hS : Stored b W W2) : St l w W2 :=
  ⟨fun x hx => hS.row (h.1 x hx) (hne x hx), hS.below h.2 hB⟩
theorem St.ne {l : List (Nat × List Value)} {w W : World} (h : St l w W) : ∀ x ∈ l, W.heap.size ≠ x.1 := fun x hx => Nat.ne_of_gt (h.1 x hx).lt
theorem st_nil {w W : World} (h : Below w.heap.size w W) : St [] w W := ⟨fun _ hx => (by cases hx), h⟩
theorem St.add {l : List (Nat × List Value)} {w W : World} (h : St l w W) {b : Nat} {vs : List Value} (hr : RowAt b vs W) : St ((b, vs) :: l) w W :=
  ⟨fun x hx => by
    rcases List.mem_cons.1 hx with rfl | hx
    · exact hr
    · exact h.1 x hx, h.2⟩
/-- Single operations. -/
theorem op_newPage {o : Oper} {a : Act} {w : World} {K : Act → World → Prop} {Q : Exit → Act → World → Prop} (ho : o.op = .alloc 27)
    (h : ∀ W, PgAt w.heap.size (newPg 0) W → Below w.heap.size w W → w.heap.size < W.heap.size → K (a.put o.dst (.pointer (some ⟨w.heap.size, 0, none⟩))) W) : o.wp Try.prog a w K Q := by
  have := h _ (PgAt.new (newPg 0) w 27) ((Below.refl _ _).alloc (Nat.le_refl _) _) (by simp)
  unfold Oper.wp execOp
  simp only [ho]
  simp [Instr.alloc, newVar, newRow, Value.cells]
  exact this
theorem op_newChg {o : Oper} {a : Act} {w : World} {K : Act → World → Prop} {Q : Exit → Act → World → Prop} (ho : o.op = .alloc 29)
    (h : ∀ W, ChAt w.heap.size chg0 W → Below w.heap.size w W → w.heap.size < W.heap.size → K (a.put o.dst (.pointer (some ⟨w.heap.size, 0, none⟩))) W) : o.wp Try.prog a w K Q := by
  have := h _ (ChAt.new chg0 w 29) ((Below.refl _ _).alloc (Nat.le_refl _) _) (by simp)
  unfold Oper.wp execOp
  simp only [ho]
  simp [Instr.alloc, newVar, newRow, Value.cells]
  exact this
theorem op_storePage {o : Oper} {a : Act} {w : World} {K : Act → World → Prop} {Q : Exit → Act → World → Prop} {x y : Operand} {b : Nat} {vs : List Value} (p : Pg) (hr : RowAt b vs w) (hl : vs.length = 34) (ho : o.op = .store 27 x y)
    (hx : a.eval x = .pointer (some ⟨b, 0, none⟩)) (hy : a.eval y = .agg p.arr) (h : ∀ W, PgAt b p W → Stored b w W → K (a.put o.dst undef) W) : o.wp Try.prog a w K Q :=
  wp_store_mid _ x y ho b 0 p.arr hx hy (hr.there 0 _ (by rw [arr_size, hl]; exact Nat.le_refl _)) (by rw [arr_size]; exact info_page) (by simpa [Pg.arr] using vals_one p) (h _ (stored_page p hr hl) ⟨_, rfl⟩)
theorem op_storeChg {o : Oper} {a : Act} {w : World} {K : Act → World → Prop} {Q : Exit → Act → World → Prop} {x y : Operand} {b : Nat} {vs : List Value} (c : Chg) (hr : RowAt b vs w) (hl : vs.length = 6) (ho : o.op = .store 29 x y)
    (hx : a.eval x = .pointer (some ⟨b, 0, none⟩)) (hy : a.eval y = .agg c.arr) (h : ∀ W, ChAt b c W → Stored b w W → K (a.put o.dst undef) W) : o.wp Try.prog a w K Q :=
  wp_store_mid _ x y ho b 0 c.arr hx hy (hr.there 0 6 (by rw [hl]; exact Nat.le_refl _)) info_change (by simpa [Chg.arr] using cvals_one c) (h _ (stored_chg c hr hl) ⟨_, rfl⟩)

/-- A region that ends in one state, whatever its order. -/
def NormalQ (R : Act → World → Prop) : Exit → Act → World → Prop
  | .normal, a, w => R a w
  | _, _, _ => False
theorem wp_one {c : Code} {Q : Exit → Act → World → Prop} {a : Act} {w : World} (A : Act) (W : World) (h : c.wp Try.prog (NormalQ fun a w => a = A ∧ w = W) a w) (hq : Q .normal A W) : c.wp Try.prog Q a w :=
  Code.wp_mono (fun e a w he => by
    cases e with
    | normal =>
      obtain ⟨rfl, rfl⟩ := he
      exact hq
    | _ => exact he.elim) h
/-- The facts. -/
abbrev ApplyIs (p : Pg) (c : Chg) (q : Pg) : Prop := ∀ W : World, Calls Try.prog 22 #[.agg p.arr, .agg c.arr] W fun e w' => e = .returned (.tuple #[.agg q.arr, .int .i64 0]) ∧ Below W.heap.size W w'
abbrev JoinIs (a b c : Chg) : Prop := ∀ W : World, Calls Try.prog 13 #[.agg a.arr, .agg b.arr] W fun e w' => e = .returned (.tuple #[.agg c.arr, .int .i64 0]) ∧ Below W.heap.size W w'
abbrev InvIs (a b : Chg) : Prop := ∀ W : World, Calls Try.prog 17 #[.agg a.arr] W fun e w' => e = .returned (.agg b.arr) ∧ Below W.heap.size W w'
theorem apply_is {p : Pg} {c : Chg} (k : Nat) (hf : FitsH c) (hv : validH c = true) (hi : c.page = p.id) (hk : slotN c = k) (hs : p.cell k = c.before) : ApplyIs p c (putCell p k c.after) := fun W => by
  have h := apply_any p c W hf
  subst hk
  rwa [applyT_yes p c (by unfold applyE; rw [hv, if_pos rfl, if_pos hi, if_pos (sameC_iff.2 hs)])] at h
theorem join_is {a b : Chg} (ha : FitsH a) (hb : FitsH b) (hva : validH a = true) (hvb : validH b = true) (hp : a.page = b.page) (hs : a.slot = b.slot) (hc : b.before = a.after) : JoinIs a b ⟨a.page, a.slot, a.before, b.after⟩ := fun W => by
  have h := join_any a b W ha hb
  rwa [joinT_yes (joinE_ok hva hvb hp hs (sameC_iff.2 hc))] at h
theorem inv_is (a : Chg) : InvIs a ⟨a.page, a.slot, a.after, a.before⟩ := fun W => inverse_any a W
theorem valid_is {n : Int} {k : Nat} {x y : CellM} (hn : idB n = true) (hk : k < 16) (hx : cellB x = true) (hy : cellB y = true) : validH ⟨n, (k : Int), x, y⟩ = true ∧ FitsH ⟨n, (k : Int), x, y⟩ := by
  refine ⟨?_, cell_le hx, cell_le hy⟩
  unfold validH
  have : slotB (k : Int) = true := by unfold slotB; exact decide_eq_true (by omega)
  rw [hn, this, hx, hy]; rfl
theorem put_put (p : Pg) (k : Nat) (x y : CellM) : sameP (putCell (putCell p k x) k y) (putCell p k y) = true := sameP_iff.2 ⟨rfl, rfl, fun i _ => by
  show (if i = k then y else if i = k then x else p.cell i) = (if i = k then y else p.cell i)
  split <;> rfl⟩
theorem put_back (p : Pg) (k : Nat) : sameP (putCell p k (p.cell k)) p = true := sameP_iff.2 ⟨rfl, rfl, fun i _ => by
  show (if i = k then p.cell k else p.cell i) = p.cell i
  split
  · rename_i h; rw [h]
  · rfl⟩
theorem sameP_symm {p q : Pg} (h : sameP p q = true) : sameP q p = true := by
  obtain ⟨h1, h2, h3⟩ := sameP_iff.1 h
  exact sameP_iff.2 ⟨h1.symm, h2.symm, fun i hi => (h3 i hi).symm⟩
theorem sameP_trans {p q r : Pg} (h : sameP p q = true) (h' : sameP q r = true) : sameP p r = true := by
  obtain ⟨h1, h2, h3⟩ := sameP_iff.1 h
  obtain ⟨k1, k2, k3⟩ := sameP_iff.1 h'
  exact sameP_iff.2 ⟨h1.trans k1, h2.trans k2, fun i hi => (h3 i hi).trans (k3 i hi)⟩
theorem cellB_at {p : Pg} (h : cellsB p = true) {k : Nat} (hk : k < 16) : cellB (p.cell k) = true := by
  have := cellsB_iff.1 h k hk
  unfold cellOkB at this
  simp only [Bool.and_eq_true] at this
  exact this.1
theorem put_at (p : Pg) (k : Nat) (x : CellM) : (putCell p k x).cell k = x := if_pos rfl
/-- A change and its inverse, two changes in a row and what they join to. -/
theorem back_facts (p : Pg) (n : Int) (k : Nat) (u v : CellM) (hn : idB n = true) (hp : p.id = n) (hc : cellsB p = true) (hk : k < 16) (hu : cellB u = true) (hv : cellB v = true) : ∃ (x y z q : Pg) (j m ia ib : Chg),
    Hid (ApplyIs p ⟨n, (k : Int), p.cell k, u⟩ x) ∧ Hid (ApplyIs x ⟨n, (k : Int), u, v⟩ y) ∧ Hid (InvIs ⟨n, (k : Int), p.cell k, u⟩ ia) ∧ Hid (ApplyIs x ia z) ∧ Hid (JoinIs ⟨n, (k : Int), p.cell k, u⟩ ⟨n, (k : Int), u, v⟩ j) ∧ Hid (ApplyIs p j q) ∧
    Hid (InvIs ⟨n, (k : Int), u, v⟩ ib) ∧ Hid (JoinIs ib ia m) ∧ Hid (InvIs j m) ∧ sameP z p = true ∧ sameP q y = true := by
  have hw := cellB_at hc hk
  have hks : ∀ a b : CellM, slotN ⟨n, (k : Int), a, b⟩ = k := fun a b => by show (k : Int).toNat = k; omega
  have v1 := valid_is hn hk hw hu
  have v2 := valid_is hn hk hu hv
  have v3 := valid_is hn hk hu hw
  have v4 := valid_is hn hk hw hv
  have v5 := valid_is hn hk hv hu
  refine ⟨_, _, _, _, _, _, _, _, Lib.hid (apply_is k v1.2 v1.1 hp.symm (hks _ _) rfl), Lib.hid (apply_is k v2.2 v2.1 hp.symm (hks _ _) (put_at _ _ _)), Lib.hid (inv_is _), Lib.hid (apply_is k v3.2 v3.1 hp.symm (hks _ _) (put_at _ _ _)),
    Lib.hid (join_is v1.2 v2.2 v1.1 v2.1 rfl rfl rfl), Lib.hid (apply_is k v4.2 v4.1 hp.symm (hks _ _) rfl), Lib.hid (inv_is _), Lib.hid (join_is v5.2 v3.2 v5.1 v3.1 rfl rfl rfl), Lib.hid (inv_is _), ?_, ?_⟩
  · exact sameP_trans (put_put p k u (p.cell k)) (put_back p k)
  · exact sameP_symm (put_put p k u v)
end Go.Proofs.Ytkcgcddpgfcgiaa.ki
