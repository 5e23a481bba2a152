/- What the bytes of a page mean: the program's Decode and Identify. -/
import Derived.Test.YtkcgcddpgfcgiaaRb
namespace Go.Proofs.Ytkcgcddpgfcgiaa.di
open Go.ChangeShapes Go.WideShapes Go.ChangeAt Go.RowKit Go.Proofs.Ytkcgcddpgfcgiaa.ra Go.Proofs.Ytkcgcddpgfcgiaa.rb Go.Proofs.Ytkcgcddpgfcgiaa.da

/-- A page with one cell replaced. -/
def putCell (p : Pg) (i : Nat) (c : CellM) : Pg := ⟨p.id, p.lsn, fun k => if k = i then c else p.cell k⟩
theorem cellVals_congr {f g : Nat → CellM} : ∀ n, (∀ i, i < n → f i = g i) → cellVals f n = cellVals g n
  | 0, _ => rfl
  | n + 1, h => by rw [cellVals, cellVals, cellVals_congr n (fun i hi => h i (by omega)), h n (by omega)]
theorem vals_congr {p q : Pg} (h1 : p.id = q.id) (h2 : p.lsn = q.lsn) (h : ∀ i, i < 16 → p.cell i = q.cell i) : p.vals = q.vals := by
  unfold Pg.vals
  rw [h1, h2, cellVals_congr 16 h]
theorem arr_congr {p q : Pg} (h1 : p.id = q.id) (h2 : p.lsn = q.lsn) (h : ∀ i, i < 16 → p.cell i = q.cell i) : p.arr = q.arr := by
  unfold Pg.arr
  rw [vals_congr h1 h2 h]
theorem cellVals_put (f : Nat → CellM) (i : Nat) (c : CellM) : ∀ n, i < n → cellVals (fun k => if k = i then c else f k) n = ((cellVals f n).set (2 * i) (.bool c.set)).set (2 * i + 1) (.string c.data)
  | 0, h => by omega
  | n + 1, h => by
    have hl := cellVals_length f n
    rw [cellVals, cellVals]
    by_cases e : i = n
    · subst e
      rw [cellVals_congr i (g := f) (fun k hk => by rw [if_neg (by omega)]), if_pos rfl]
      rw [List.set_append_right _ _ (by omega), List.set_append_right _ _ (by omega), hl]
      rw [show 2 * i - 2 * i = 0 from by omega, show 2 * i + 1 - 2 * i = 1 from by omega]
      rfl
    · rw [cellVals_put f i c n (by omega), if_neg (by omega)]
      rw [List.set_append_left _ _ (by omega), List.set_append_left _ _ (by rw [List.length_set]; omega)]
theorem vals_put (p : Pg) (i : Nat) (c : CellM) (hi : i < 16) : (putCell p i c).vals = (p.vals.set (2 + i * 2) (.bool c.set)).set (2 + i * 2 + 1) (.string c.data) := by
  unfold putCell Pg.vals
  simp only
  rw [cellVals_put p.cell i c 16 hi, show 2 + i * 2 = 2 * i + 1 + 1 from by omega, List.set_cons_succ, List.set_cons_succ, List.set_cons_succ, List.set_cons_succ]
theorem PgAt.put {b : Nat} {p : Pg} {w : World} (h : PgAt b p w) (i : Nat) (hi : i < 16) (c : CellM) : PgAt b (putCell p i c) ((w.setCell ⟨b, 2 + i * 2, none⟩ (.bool c.set)).setCell ⟨b, 2 + i * 2 + 1, none⟩ (.string c.data)) := by
  have hl := vals_length p
  have := (RowAt.set h (2 + i * 2) (by omega) (.bool c.set)).set (2 + i * 2 + 1) (by rw [List.length_set]; omega) (.string c.data)
  show RowAt b _ _
  rw [vals_put p i c hi]
  exact this
end Go.Proofs.Ytkcgcddpgfcgiaa.di
