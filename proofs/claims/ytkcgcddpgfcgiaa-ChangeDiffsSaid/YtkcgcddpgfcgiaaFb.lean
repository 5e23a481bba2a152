/- PageTears: the walk. The sanity check of layer 2. -/
import Derived.Test.YtkcgcddpgfcgiaaEb
namespace Go.Proofs.Ytkcgcddpgfcgiaa.fb
open Go.ChangeShapes Go.WideShapes Go.ChangeAt Go.RowKit Go.Proofs.Ytkcgcddpgfcgiaa.cx Go.Proofs.Ytkcgcddpgfcgiaa.ra Go.Proofs.Ytkcgcddpgfcgiaa.rb Go.Proofs.Ytkcgcddpgfcgiaa.rc Go.Proofs.Ytkcgcddpgfcgiaa.da Go.Proofs.Ytkcgcddpgfcgiaa.di Go.Proofs.Ytkcgcddpgfcgiaa.ea Go.Proofs.Ytkcgcddpgfcgiaa.eb

theorem new_most (so : Option Addr) (len cap m : Nat) (w : World) (h : BytesIn so len w) (hl : len ≤ 9223372036854775807) (hc : len ≤ cap) (hm : m ≤ 100000) :
    Calls Try.prog 8 #[.slice so len cap, .int .i64 (m : Int)] w (NewPost w) := by
  by_cases h60 : m < len
  · have HB := Lib.hid (codes_new so m cap w (fun i hi => h i (by omega)) (by omega))
    clear h
    go_enter Try.func8, Try.ntmps8
    go_wp2
    go_ret
    exact ⟨rfl, HB.out, (Below.refl _ _).alloc (Nat.le_refl _) _, by simp⟩
  · have HB := Lib.hid (codes_new so len cap w h (by omega))
    clear h
    go_enter Try.func8, Try.ntmps8
    go_wp2
    go_ret
    exact ⟨rfl, HB.out, (Below.refl _ _).alloc (Nat.le_refl _) _, by simp⟩
theorem new_is (so : Option Addr) (len cap m : Nat) (x : Int) (hx : x = m) (w : World) (h : BytesIn so len w) (hl : len ≤ 9223372036854775807) (hc : len ≤ cap) (hm : m ≤ 100000) :
    Calls Try.prog 8 #[.slice so len cap, .int .i64 x] w (NewPost w) := hx ▸ new_most so len cap m w h hl hc hm
theorem bytesIn_below {so : Option Addr} {len : Nat} {w w' : World} (h : BytesIn so len w) (hb : Below w.heap.size w w') : BytesIn so len w' := fun i hi => by
  obtain ⟨b, off, x, e, hc, hx⟩ := h i hi
  exact ⟨b, off, x, e, (hb.cell (p := ⟨b, off + i, none⟩) (cell_lt hc)).trans hc, hx⟩
/-- Some cells of block b have been stored. -/
def Stored (b : Nat) (w W : World) : Prop := ∃ us, W = w.setCells b 0 us
theorem Stored.row {b b' : Nat} {vs : List Value} {w W : World} (h : Stored b w W) (hr : RowAt b' vs w) (hne : b ≠ b') : RowAt b' vs W := by
  obtain ⟨us, rfl⟩ := h
  exact hr.setCellsOther hne us 0
theorem Stored.below {b B : Nat} {a w W : World} (h : Stored b w W) (hb : Below B a w) (hB : B ≤ b) : Below B a W := by
  obtain ⟨us, rfl⟩ := h
  exact below_setCells b hB us 0 _ hb
theorem Stored.cod {b p : Nat} {w W : World} (h : Stored b w W) (hc : Cod p w) (hb : p < b) : Cod p W := by
  obtain ⟨us, rfl⟩ := h
  exact cod_cells us 0 hc hb
theorem Stored.since {b p : Nat} {w0 w W : World} (h : Stored b w W) (hc : Since p w0 w) (hb : w0.heap.size ≤ b) : Since p w0 W := by
  obtain ⟨us, rfl⟩ := h
  exact since_cells us 0 hc hb
theorem Stored.size {b : Nat} {w W : World} (h : Stored b w W) : W.heap.size = w.heap.size := by
  obtain ⟨us, rfl⟩ := h
  exact setCells_size b us 0 w
theorem wp_storePageW {ops : Array Oper} {rest : List Oper} {o : Oper} {a : Act} {w : World} {Q : Exit → Act → World → Prop} {x y : Operand} {b : Nat} {vs : List Value} (p : Pg) (hr : RowAt b vs w) (hl : vs.length = 34) (ho : o.op = .store 27 x y)
    (hx : a.eval x = .pointer (some ⟨b, 0, none⟩)) (hy : a.eval y = .agg p.arr) (hgd : Region.wanted o (yielded ops a.tmps) = true) (h : ∀ W, PgAt b p W → Stored b w W → wpList Try.prog ops Q rest (a.put o.dst undef) W) : wpList Try.prog ops Q (o :: rest) a w :=
  wp_storePage p hr hl ho hx hy hgd (h _ (stored_page p hr hl) ⟨_, rfl⟩)
end Go.Proofs.Ytkcgcddpgfcgiaa.fb
