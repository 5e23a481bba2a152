/- The draws of cells and pages: what Data, Cell and Int of pagemenddraw return, as far as the statements of layer 2 need it. -/
import Derived.Test.YtmlclccfmlcabaaDoorRb
import Derived.Test.YtmlclccfmlcabaaDoorRc
import Derived.Test.YtmlclccfmlcabaaDoorCx
namespace Go.Proofs.YtmlclccfmlcabaaDoor.ea
open Go.ChangeShapes Go.WideShapes Go.ChangeAt Go.RowKit Go.Proofs.YtmlclccfmlcabaaDoor.cx Go.Proofs.YtmlclccfmlcabaaDoor.da Go.Proofs.YtmlclccfmlcabaaDoor.ra Go.Proofs.YtmlclccfmlcabaaDoor.rb Go.Proofs.YtmlclccfmlcabaaDoor.rc Go.Proofs.YtmlclccfmlcabaaDoor.ya
open Go.Lib (strCells)
theorem cod_keep {p : Nat} {w w' : World} (h : Cod p w) (hb : Below w.heap.size w w') : Cod p w' := by
  obtain ⟨so, len, cap, at', h⟩ := h
  have hp := cell_lt h.slice
  refine ⟨so, len, cap, at', (hb.cell (p := ⟨p, 0, none⟩) hp).trans h.slice, (hb.cell (p := ⟨p, 1, none⟩) hp).trans h.at1, (hb.frozen (p := ⟨p, 1, none⟩) hp).trans h.free, h.le, h.small, fun i hi => ?_⟩
  obtain ⟨b, off, x, e, hne, hc, hx⟩ := h.bytes i hi
  exact ⟨b, off, x, e, hne, (hb.cell (p := ⟨b, off + i, none⟩) (cell_lt hc)).trans hc, hx⟩
theorem cod_lt {p : Nat} {w : World} (h : Cod p w) : p < w.heap.size := by
  obtain ⟨so, len, cap, at', h⟩ := h
  exact cell_lt h.slice
/-- What was made since w0 has turned, and block p. -/
abbrev Since (p : Nat) (w0 w : World) : Prop := w0.grownBy w (some p)
theorem since_below {p : Nat} {w0 w w' : World} (h : Since p w0 w) (hb : Below w.heap.size w w') : Since p w0 w' :=
  ⟨hb.os.trans h.os, hb.tape.trans h.tape, hb.output.trans h.output, Nat.le_trans h.size hb.size, fun k hk hne => (hb.block k (Nat.lt_of_lt_of_le hk h.size)).trans (h.block k hk hne)⟩
theorem since_set {p : Nat} {w0 w : World} (h : Since p w0 w) {a : Addr} (ha : w0.heap.size ≤ a.block) (v : Value) : Since p w0 (w.setCell a v) :=
  ⟨h.os, h.tape, h.output, by rw [setCell_size]; exact h.size, fun k hk hne => by rw [Below.heap_setCell _ _ _ _ (by omega)]; exact h.block k hk hne⟩
theorem since_own {p : Nat} {w0 w w' : World} {row : Option Nat} (h : Since p w0 w) (hg : w.grownBy w' row) (hr : ∀ k, row = some k → w0.heap.size ≤ k) : Since p w0 w' :=
  ⟨hg.os.trans h.os, hg.tape.trans h.tape, hg.output.trans h.output, Nat.le_trans h.size hg.size, fun k hk hne => (hg.block k (Nat.lt_of_lt_of_le hk h.size) (fun e => by have := hr k e.symm; omega)).trans (h.block k hk hne)⟩
theorem cod_own {p : Nat} {w w' : World} {row : Option Nat} (h : Cod p w) (hg : w.grownBy w' row) (hr : ∀ k, row = some k → p < k) : Cod p w' := by
  obtain ⟨so, len, cap, at', h⟩ := h
  have hp := cell_lt h.slice
  have keep : ∀ b, b < w.heap.size → b ≤ p → (∀ o, w'.cell? ⟨b, o, none⟩ = w.cell? ⟨b, o, none⟩) ∧ ∀ o, w'.frozen? ⟨b, o, none⟩ = w.frozen? ⟨b, o, none⟩ := fun b hlt hle =>
    have hk : w'.heap[b]? = w.heap[b]? := hg.block b hlt (fun e => by have := hr b e.symm; omega)
    ⟨fun o => World.cell?_of_block (w := w) (a := ⟨b, o, none⟩) hk, fun o => World.frozen?_of_block (w := w) (a := ⟨b, o, none⟩) hk⟩
  have k0 := keep p hp (Nat.le_refl _)
  refine ⟨so, len, cap, at', (k0.1 0).trans h.slice, (k0.1 1).trans h.at1, (k0.2 1).trans h.free, h.le, h.small, fun i hi => ?_⟩
  obtain ⟨b, off, x, e, hne, hc, hx⟩ := h.bytes i hi
  exact ⟨b, off, x, e, hne, ((keep b (cell_lt hc) (by omega)).1 _).trans hc, hx⟩
theorem cod_set {p : Nat} {w : World} (h : Cod p w) {a : Addr} (ha : p < a.block) (v : Value) : Cod p (w.setCell a v) :=
  cod_own (row := some a.block) h ⟨rfl, rfl, rfl, by rw [setCell_size]; exact Nat.le_refl _, fun k _ hne => Below.heap_setCell _ _ _ _ (fun e => hne (by rw [e]))⟩ (fun k hk => by injection hk with hk; omega)

theorem strOfNums_self (l : ByteArray) : strOfNums (l.data.toList.map fun b => (b.toNat : Int)) = l := by
  apply ByteArray.ext
  apply Array.ext'
  rw [strOfNums_data, List.map_map]
  exact (List.map_congr_left (fun b _ => by simp)).trans (List.map_id _)
theorem conv_nil (w : World) : (convert 62 9 (.slice none 0 0)).run Tryd.prog w = .ok (.string ⟨#[]⟩) w := by kernel_rfl
/-- A text of a few bytes. -/
def DataR (p : Nat) (w : World) (e : Ending) (w' : World) : Prop := ∃ r : ByteArray, e = .returned (.string r) ∧ r.size ≤ 13 ∧ Cod p w' ∧ Since p w w'
theorem make_cap (n : Nat) (hn : n ≤ 1000) (W : World) : (Instr.makeSlice 62 (.int .i64 0) (.int .i64 (n : Int))).run Tryd.prog W = .ok (.slice (some ⟨W.heap.size, 0, none⟩) 0 n) (W.alloc (zeroObj n)) := by
  obtain ⟨i, hi, h0, h1, h2⟩ := info_parts info5
  have := run_make (P := Tryd.prog) W 62 5 i _ Tryd.underlying62 hi h0 .i64 .i64 0 (n : Int) (by omega) (by omega) (by rw [h2]; omega) (by omega)
  rw [this, h1, Int.toNat_natCast, Nat.mul_one]
  rfl
theorem make_owns (n base : Nat) (W : World) (hn : n ≤ 1000) (hb : base ≤ W.heap.size) : (W.alloc (zeroObj n)).ownsRow base 5 1 (.slice (some ⟨W.heap.size, 0, none⟩) 0 n) (⟨#[]⟩ : ByteArray).size (strCells ⟨#[]⟩) :=
  ⟨rfl, .inr ⟨W.heap.size, n, madeCells #[.int .u8 0] n, rfl, hb, heap_alloc_new W _, Nat.zero_le _, by unfold maxLen; omega, by rw [size_madeCells, Nat.mul_one], rfl⟩⟩
theorem strCells_byte (l : ByteArray) (c : Nat) (hc : c < 256) : strCells (l ++ ⟨#[UInt8.ofNat c]⟩) = strCells l ++ [.int .u8 (c : Nat)] := by
  rw [strCells_append]
  congr 1
  simp [strCells]
  omega
theorem conv_row {B n : Nat} {v : Value} {l : ByteArray} {w : World} (h : w.ownsRow B 5 1 v n (strCells l)) (hn : n = l.size) : (convert 62 9 v).run Tryd.prog w = .ok (.string l) w := by
  subst hn
  rcases h.2 with ⟨rfl, h0⟩ | ⟨g, cap, cur, rfl, hbg, hg, hnc, hcm, hcs, htake⟩
  · have hl : l = ⟨#[]⟩ := by
      apply ByteArray.ext
      have : l.data.size = 0 := h0
      exact Array.eq_empty_of_size_eq_zero this
    subst hl
    exact conv_nil w
  · have hc := h.cells (g := g) rfl
    have := run_convert_bytes_arg (P := Tryd.prog) w 62 5 Tryd.underlying62 Tryd.underlying5 g 0 l.size cap (l.data.toList.map fun b => (b.toNat : Int)) (by simp) (fun i hi => by
      have hil : i < l.data.toList.length := by simpa using hi
      have e := hc i (.int .u8 (l.data.toList[i].toNat : Int)) (by rw [strCells, List.getElem?_map, List.getElem?_eq_getElem hil]; rfl)
      have ha : (⟨g, 0, none⟩ : Addr).add i = ⟨g, 0 + i, none⟩ := Addr.add_mid g 0 i
      rw [ha] at e
      rw [e]
      rw [List.getD, List.getElem?_map, List.getElem?_eq_getElem hil]; rfl) 9 Tryd.underlying9
    rw [strOfNums_self] at this
    exact this
end Go.Proofs.YtmlclccfmlcabaaDoor.ea
