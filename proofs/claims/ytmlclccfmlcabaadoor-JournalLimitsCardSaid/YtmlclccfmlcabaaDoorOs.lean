/- Live variables and rows that the call owns, over any program: what is kept when other blocks turn. -/
import Derived.Test.YtmlclccfmlcabaaDoorOa
import Derived.Deep.RegionHeld
import Derived.BigRegion
import Derived.Deep.Cut
import Derived.Deep.CutBlock
namespace Go.Proofs.YtmlclccfmlcabaaDoor.os
open Go.ChangeShapes Go.WideShapes Go.ChangeAt Go.RowKit Go.Proofs.YtmlclccfmlcabaaDoor.cx Go.Proofs.YtmlclccfmlcabaaDoor.da Go.Proofs.YtmlclccfmlcabaaDoor.ea Go.Proofs.YtmlclccfmlcabaaDoor.eb Go.Proofs.YtmlclccfmlcabaaDoor.ed Go.Proofs.YtmlclccfmlcabaaDoor.fb Go.Proofs.YtmlclccfmlcabaaDoor.ka Go.Proofs.YtmlclccfmlcabaaDoor.kb Go.Proofs.YtmlclccfmlcabaaDoor.kg Go.Proofs.YtmlclccfmlcabaaDoor.kj Go.Proofs.YtmlclccfmlcabaaDoor.oa Go.Proofs.YtmlclccfmlcabaaDoor.ra Go.Proofs.YtmlclccfmlcabaaDoor.rb Go.Proofs.YtmlclccfmlcabaaDoor.rc Go.Proofs.YtmlclccfmlcabaaDoor.ya
variable {P : Program}
/-- These variables live, and nothing of w has turned. -/
def St (l : List (Nat × List Value)) (w W : World) : Prop := (∀ x ∈ l, RowAt x.1 x.2 W) ∧ Below w.heap.size w W
theorem St.keep {l : List (Nat × List Value)} {w W W' : World} (h : St l w W) (hb : Below W.heap.size W W') : St l w W' :=
  ⟨fun x hx => (h.1 x hx).keep hb, h.2.trans (hb.mono h.2.size)⟩
theorem St.drew {l : List (Nat × List Value)} {w W : World} (h : St l w W) : St l w W.drew := ⟨fun x hx => (h.1 x hx).drew, h.2.drew⟩
theorem below_drewN {B : Nat} {a w : World} (h : Below B a w) (q : Nat) : Below B a (w.drewN q) := ⟨h.os, h.tape, h.output, h.size, h.block⟩
theorem St.drewN {l : List (Nat × List Value)} {w W : World} (h : St l w W) (n : Nat) : St l w (W.drewN n) := ⟨fun x hx => (h.1 x hx).drewN n, below_drewN h.2 n⟩
theorem St.row {l : List (Nat × List Value)} {w W : World} (h : St l w W) {b : Nat} {vs : List Value} (hx : (b, vs) ∈ l) : RowAt b vs W := h.1 _ hx
theorem St.sub {l l' : List (Nat × List Value)} {w W : World} (h : St l w W) (hs : ∀ x ∈ l', x ∈ l) : St l' w W := ⟨fun x hx => h.1 x (hs x hx), h.2⟩
theorem St.ne {l : List (Nat × List Value)} {w W : World} (h : St l w W) : ∀ x ∈ l, W.heap.size ≠ x.1 := fun x hx => Nat.ne_of_gt (h.1 x hx).lt
theorem st_nil {w W : World} (h : Below w.heap.size w W) : St [] w W := ⟨fun _ hx => (by cases hx), h⟩
theorem St.add {l : List (Nat × List Value)} {w W : World} (h : St l w W) {b : Nat} {vs : List Value} (hr : RowAt b vs W) : St ((b, vs) :: l) w W :=
  ⟨fun x hx => by
    rcases List.mem_cons.1 hx with rfl | hx
    · exact hr
    · exact h.1 x hx, h.2⟩
theorem St.first {l : List (Nat × List Value)} {w W W' : World} {vs : List Value} (h : St l w W) (hb : Below W.heap.size W W') (hP : RowAt W.heap.size vs W') : St ((W.heap.size, vs) :: l) w W' := (h.keep hb).add hP
theorem St.pushAt {l : List (Nat × List Value)} {w W W' W2 : World} {vs : List Value} (h : St l w W) (hb : Below W.heap.size W W') (hP : RowAt W.heap.size vs W2) (hS : StoredAt W.heap.size W' W2) : St ((W.heap.size, vs) :: l) w W2 :=
  St.add ⟨fun x hx => hS.row ((h.keep hb).1 x hx) (h.ne x hx), hS.below (h.keep hb).2 h.2.size⟩ hP
theorem St.stored {l : List (Nat × List Value)} {w W W2 : World} {b : Nat} (h : St l w W) (hne : ∀ x ∈ l, b ≠ x.1) (hB : w.heap.size ≤ b) (hS : StoredAt b W W2) : St l w W2 :=
  ⟨fun x hx => hS.row (h.1 x hx) (hne x hx), hS.below h.2 hB⟩
theorem St.grown {l : List (Nat × List Value)} {w W W' : World} {row : Option Nat} (h : St l w W) (hg : W.grownBy W' row) (hne : ∀ x ∈ l, row ≠ some x.1) (hB : ∀ k, row = some k → w.heap.size ≤ k) : St l w W' :=
  ⟨fun x hx => RowAt.grown (h.1 x hx) hg (hne x hx), h.2.grown hg h.2.size hB⟩

/- Rows that the call owns. -/
section
variable {w w' : World} {base n size : Nat} {e : TypeId} {v : Value} {xs : List Value}
end
theorem op_storeChg6 {o : Oper} {a : Act} {w : World} {Q : Exit → Act → World → Prop} {x y : Operand} {b : Nat} {K : Act → World → Prop} (c : Chg) (e : Ent) (hr : EnAt b e w) (ho : o.op = .store 29 x y)
    (hx : a.eval x = .pointer (some ⟨b, 6, none⟩)) (hy : a.eval y = .agg c.arr) (h : ∀ W, EnAt b { e with change := c } W → StoredAt b w W → K (a.put o.dst undef) W) : o.wp Tryd.prog a w K Q :=
  wp_store_mid _ x y ho b 6 c.arr hx hy (RowAt.there hr 6 6 (by rw [evals_length]; decide)) info_change (by simpa [Chg.arr] using cvals_one c) (h _ (RowAt.setCells c.vals 6 hr (by rw [cvals_length, evals_length]; decide)) ⟨_, _, rfl⟩)
theorem below_grownBy {w w' : World} (h : Below w.heap.size w w') (row : Option Nat) : w.grownBy w' row := ⟨h.os, h.tape, h.output, h.size, fun k hk _ => h.block k hk⟩
end Go.Proofs.YtmlclccfmlcabaaDoor.os
