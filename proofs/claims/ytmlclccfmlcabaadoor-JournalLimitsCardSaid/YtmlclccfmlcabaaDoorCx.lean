/- The choices out of codes: what New, Next and Spoilt of pagemenddraw return, as far as the statements of layer 1 need it. -/
import Derived.Test.YtmlclccfmlcabaaDoorYa
import Derived.WalkLawsBesides
namespace Go.Proofs.YtmlclccfmlcabaaDoor.cx
open Go.ChangeShapes Go.WideShapes Go.ChangeAt Go.RowKit Go.Proofs.YtmlclccfmlcabaaDoor.ya
/-- Block p is a Codes: a slice of bytes, an index into it. -/
structure Codes (p : Nat) (so : Option Addr) (len cap at' : Nat) (w : World) : Prop where
  slice : w.cell? ⟨p, 0, none⟩ = some (.slice so len cap)
  at1 : w.cell? ⟨p, 1, none⟩ = some (.int .i64 (at' : Int))
  free : w.frozen? ⟨p, 1, none⟩ = false
  le : at' ≤ len
  small : len ≤ 1000000
  bytes : ∀ i, i < len → ∃ (b off : Nat) (x : Int), so = some ⟨b, off, none⟩ ∧ b < p ∧ w.cell? ⟨b, off + i, none⟩ = some (.int .u8 x) ∧ 0 ≤ x ∧ x ≤ 255
def Cod (p : Nat) (w : World) : Prop := ∃ so len cap at', Codes p so len cap at' w

/-- What a choice gives. -/
def Chosen (p : Nat) (n : Int) (w : World) (e : Ending) (w' : World) : Prop :=
  ∃ r : Int, e = .returned (.int .i64 r) ∧ 0 ≤ r ∧ (1 ≤ n → r < n) ∧ (n < 1 → r = 0) ∧ Cod p w' ∧ w.grownBy w' (some p)

theorem grownBy_refl (w : World) (row : Option Nat) : w.grownBy w row := ⟨rfl, rfl, rfl, Nat.le_refl _, fun _ _ _ => rfl⟩

theorem grownBy_drewN (w : World) (n : Nat) (row : Option Nat) : w.grownBy (w.drewN n) row := ⟨rfl, rfl, rfl, Nat.le_refl _, fun _ _ _ => rfl⟩
theorem Codes.drewN {p : Nat} {so : Option Addr} {len cap at' : Nat} {w : World} (h : Codes p so len cap at' w) (n : Nat) : Codes p so len cap at' (w.drewN n) :=
  ⟨h.slice, h.at1, h.free, h.le, h.small, h.bytes⟩
theorem Codes.step {p : Nat} {so : Option Addr} {len cap at' : Nat} {w : World} (h : Codes p so len cap at' w) (hlt : at' < len) : Codes p so len cap (at' + 1) (w.setCell ⟨p, 1, none⟩ (.int .i64 ((at' : Int) + 1))) := by
  refine ⟨?_, World.cell?_setCell_same (h := h.at1) .., by rw [World.frozen?_setCell]; exact h.free, by omega, h.small, fun i hi => ?_⟩
  · rw [World.cell?_setCell_other (h := fun e => by injection e with _ e _; cases e)]
    exact h.slice
  · obtain ⟨b, off, x, e, hb, hc, hx⟩ := h.bytes i hi
    refine ⟨b, off, x, e, hb, ?_, hx⟩
    rw [World.cell?_setCell_other (h := fun e => Nat.ne_of_lt hb (by injection e with e _ _; exact e.symm))]
    exact hc
theorem grownBy_setCell {w w' : World} {p o : Nat} (h : w.grownBy w' (some p)) (v : Value) : w.grownBy (w'.setCell ⟨p, o, none⟩ v) (some p) :=
  ⟨h.os, h.tape, h.output, by have := h.size; simp [World.setCell]; omega, fun k hk hne => by
    rw [Below.heap_setCell _ _ _ _ (fun e => hne (by rw [e]))]
    exact h.block k hk hne⟩
theorem grownBy_trans {w w' w2 : World} {p : Nat} (h : w.grownBy w' (some p)) (h2 : w'.grownBy w2 (some p)) : w.grownBy w2 (some p) :=
  ⟨h2.os.trans h.os, h2.tape.trans h.tape, h2.output.trans h.output, Nat.le_trans h.size h2.size, fun k hk hne => (h2.block k (Nat.lt_of_lt_of_le hk h.size) hne).trans (h.block k hk hne)⟩

theorem cell_lt {w : World} {a : Addr} {v : Value} (h : w.cell? a = some v) : a.block < w.heap.size := by
  rcases Nat.lt_or_ge a.block w.heap.size with h1 | h1
  · exact h1
  · have hn : w.heap[a.block]? = none := by simp [h1]
    simp [World.cell?, hn] at h
theorem Cod.alloc {p : Nat} {w : World} (h : Cod p w) (o : Obj) : Cod p (w.alloc o) := by
  obtain ⟨so, len, cap, at', h⟩ := h
  have hb : Below w.heap.size w (w.alloc o) := (Below.refl _ _).alloc (Nat.le_refl _) _
  have hp := cell_lt h.slice
  refine ⟨so, len, cap, at', (hb.cell (p := ⟨p, 0, none⟩) hp).trans h.slice, (hb.cell (p := ⟨p, 1, none⟩) hp).trans h.at1, (hb.frozen (p := ⟨p, 1, none⟩) hp).trans h.free, h.le, h.small, fun i hi => ?_⟩
  obtain ⟨b, off, x, e, hne, hc, hx⟩ := h.bytes i hi
  exact ⟨b, off, x, e, hne, (hb.cell (p := ⟨b, off + i, none⟩) (cell_lt hc)).trans hc, hx⟩
theorem Cod.drew {p : Nat} {w : World} (h : Cod p w) : Cod p w.drew := by
  obtain ⟨so, len, cap, at', h⟩ := h
  exact ⟨so, len, cap, at', h.slice, h.at1, h.free, h.le, h.small, h.bytes⟩
theorem Cod.drewN {p : Nat} {w : World} (h : Cod p w) (n : Nat) : Cod p (w.drewN n) := by
  obtain ⟨so, len, cap, at', h⟩ := h
  exact ⟨so, len, cap, at', h.drewN n⟩
theorem grownBy_alloc {w w' : World} {row : Option Nat} (h : w.grownBy w' row) (o : Obj) : w.grownBy (w'.alloc o) row :=
  ⟨h.os, h.tape, h.output, by have := h.size; simp; omega, fun k hk hne => by
    rw [Below.heap_alloc _ _ _ (Nat.lt_of_lt_of_le hk h.size)]
    exact h.block k hk hne⟩
theorem grownBy_drew {w w' : World} {row : Option Nat} (h : w.grownBy w' row) : w.grownBy w'.drew row := ⟨h.os, h.tape, h.output, h.size, h.block⟩

/-- A slice of bytes as it came in. -/
def BytesIn (so : Option Addr) (len : Nat) (w : World) : Prop := ∀ i, i < len → ∃ (b off : Nat) (x : Int), so = some ⟨b, off, none⟩ ∧ w.cell? ⟨b, off + i, none⟩ = some (.int .u8 x) ∧ 0 ≤ x ∧ x ≤ 255
def NewPost (w : World) (e : Ending) (w' : World) : Prop := e = .returned (.pointer (some ⟨w.heap.size, 0, none⟩)) ∧ Cod w.heap.size w' ∧ Below w.heap.size w w' ∧ w'.heap.size = w.heap.size + 1
end Go.Proofs.YtmlclccfmlcabaaDoor.cx
