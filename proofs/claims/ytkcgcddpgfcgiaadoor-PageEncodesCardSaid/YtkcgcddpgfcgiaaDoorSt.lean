/- Live struct variables as one list. -/
import Derived.Test.YtkcgcddpgfcgiaaDoorFb
namespace Go.Proofs.YtkcgcddpgfcgiaaDoor.st
open Go.ChangeShapes Go.WideShapes Go.ChangeAt Go.RowKit Go.Proofs.YtkcgcddpgfcgiaaDoor.cx Go.Proofs.YtkcgcddpgfcgiaaDoor.ra Go.Proofs.YtkcgcddpgfcgiaaDoor.rc Go.Proofs.YtkcgcddpgfcgiaaDoor.da Go.Proofs.YtkcgcddpgfcgiaaDoor.di Go.Proofs.YtkcgcddpgfcgiaaDoor.ea Go.Proofs.YtkcgcddpgfcgiaaDoor.eb Go.Proofs.YtkcgcddpgfcgiaaDoor.fb

/-- These variables live, and nothing of w has turned. -/
def St (l : List (Nat × List Value)) (w W : World) : Prop := (∀ x ∈ l, RowAt x.1 x.2 W) ∧ Below w.heap.size w W
theorem St.keep {l : List (Nat × List Value)} {w W W' : World} (h : St l w W) (hb : Below W.heap.size W W') : St l w W' :=
  ⟨fun x hx => (h.1 x hx).keep hb, h.2.trans (hb.mono h.2.size)⟩
theorem St.drew {l : List (Nat × List Value)} {w W : World} (h : St l w W) : St l w W.drew := ⟨fun x hx => (h.1 x hx).drew, h.2.drew⟩
theorem St.row {l : List (Nat × List Value)} {w W : World} (h : St l w W) {b : Nat} {vs : List Value} (hx : (b, vs) ∈ l) : RowAt b vs W := h.1 _ hx
theorem St.sub {l l' : List (Nat × List Value)} {w W : World} (h : St l w W) (hs : ∀ x ∈ l', x ∈ l) : St l' w W := ⟨fun x hx => h.1 x (hs x hx), h.2⟩
/-- A new variable, then stored. -/
theorem St.push {l : List (Nat × List Value)} {w W W' W2 : World} {vs : List Value} (h : St l w W) (hb : Below W.heap.size W W') (hP : RowAt W.heap.size vs W2) (hS : Stored W.heap.size W' W2) : St ((W.heap.size, vs) :: l) w W2 := by
  refine ⟨fun x hx => ?_, hS.below (h.2.trans (hb.mono h.2.size)) h.2.size⟩
  rcases List.mem_cons.1 hx with rfl | hx
  · exact hP
  · exact hS.row ((h.1 x hx).keep hb) (Nat.ne_of_gt (h.1 x hx).lt)
theorem St.stored {l : List (Nat × List Value)} {w W W2 : World} {b : Nat} (h : St l w W) (hne : ∀ x ∈ l, b ≠ x.1) (hB : w.heap.size ≤ b) (hS : Stored b W W2) : St l w W2 :=
  ⟨fun x hx => hS.row (h.1 x hx) (hne x hx), hS.below h.2 hB⟩
theorem St.ne {l : List (Nat × List Value)} {w W : World} (h : St l w W) : ∀ x ∈ l, W.heap.size ≠ x.1 := fun x hx => Nat.ne_of_gt (h.1 x hx).lt
theorem st_nil {w W : World} (h : Below w.heap.size w W) : St [] w W := ⟨fun _ hx => (by cases hx), h⟩
theorem St.add {l : List (Nat × List Value)} {w W : World} (h : St l w W) {b : Nat} {vs : List Value} (hr : RowAt b vs W) : St ((b, vs) :: l) w W :=
  ⟨fun x hx => by
    rcases List.mem_cons.1 hx with rfl | hx
    · exact hr
    · exact h.1 x hx, h.2⟩
theorem St.grown {l : List (Nat × List Value)} {w W W' : World} {p : Nat} (h : St l w W) (hg : W.grownBy W' (some p)) (hp : w.heap.size ≤ p) (hne : ∀ x ∈ l, p ≠ x.1) : St l w W' :=
  ⟨fun x hx => RowAt.grown (h.1 x hx) hg (fun e => hne x hx (by injection e)), h.2.grown hg h.2.size (fun k e => by injection e with e; omega)⟩
theorem St.first {l : List (Nat × List Value)} {w W W' : World} {vs : List Value} (h : St l w W) (hb : Below W.heap.size W W') (hP : RowAt W.heap.size vs W') : St ((W.heap.size, vs) :: l) w W' := (h.keep hb).add hP
end Go.Proofs.YtkcgcddpgfcgiaaDoor.st
