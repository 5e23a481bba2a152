/- The draws of cells and pages: what Data, Cell and Int of pagemenddraw return, as far as the statements of layer 2 need it. -/
import Derived.Test.YtiojpfljnbdonaaRb
import Derived.Test.YtiojpfljnbdonaaRc
import Derived.Test.YtiojpfljnbdonaaCx
namespace Go.Proofs.Ytiojpfljnbdonaa.ea
open Go.ChangeShapes Go.WideShapes Go.ChangeAt Go.RowKit Go.Proofs.Ytiojpfljnbdonaa.cx Go.Proofs.Ytiojpfljnbdonaa.da Go.Proofs.Ytiojpfljnbdonaa.ra Go.Proofs.Ytiojpfljnbdonaa.rb Go.Proofs.Ytiojpfljnbdonaa.rc Go.Proofs.Ytiojpfljnbdonaa.ya
open Go.Lib (strCells)
theorem cod_keep {p : Nat} {w w' : World} (h : Cod p w) (hb : Below w.heap.size w w') : Cod p w' := by
  obtain ⟨so, len, cap, at', h⟩ := h
  have hp := cell_lt h.slice
  refine ⟨so, len, cap, at', (hb.cell (p := ⟨p, 0, none⟩) hp).trans h.slice, (hb.cell (p := ⟨p, 1, none⟩) hp).trans h.at1, (hb.frozen (p := ⟨p, 1, none⟩) hp).trans h.free, h.le, h.small, fun i hi => ?_⟩
  obtain ⟨b, off, x, e, hne, hc, hx⟩ := h.bytes i hi
  exact ⟨b, off, x, e, hne, (hb.cell (p := ⟨b, off + i, none⟩) (cell_lt hc)).trans hc, hx⟩
theorem cod_lt {p : Nat} {w : World} (h : Cod p w) : p < w.heap.size := by
  obtain ⟨so, len, cap, at', h⟩ := h
  exact cell_lt h.slice
/-- What was made since w0 has turned, and block p. -/
abbrev Since (p : Nat) (w0 w : World) : Prop := w0.grownBy w (some p)
theorem since_below {p : Nat} {w0 w w' : World} (h : Since p w0 w) (hb : Below w.heap.size w w') : Since p w0 w' :=
  ⟨hb.os.trans h.os, hb.tape.trans h.tape, hb.output.trans h.output, Nat.le_trans h.size hb.size, fun k hk hne => (hb.block k (Nat.lt_of_lt_of_le hk h.size)).trans (h.block k hk hne)⟩
theorem since_set {p : Nat} {w0 w : World} (h : Since p w0 w) {a : Addr} (ha : w0.heap.size ≤ a.block) (v : Value) : Since p w0 (w.setCell a v) :=
  ⟨h.os, h.tape, h.output, by rw [setCell_size]; exact h.size, fun k hk hne => by rw [Below.heap_setCell _ _ _ _ (by omega)]; exact h.block k hk hne⟩
theorem since_own {p : Nat} {w0 w w' : World} {row : Option Nat} (h : Since p w0 w) (hg : w.grownBy w' row) (hr : ∀ k, row = some k → w0.heap.size ≤ k) : Since p w0 w' :=
  ⟨hg.os.trans h.os, hg.tape.trans h.tape, hg.output.trans h.output, Nat.le_trans h.size hg.size, fun k hk hne => (hg.block k (Nat.lt_of_lt_of_le hk h.size) (fun e => by have := hr k e.symm; omega)).trans (h.block k hk hne)⟩
theorem cod_own {p : Nat} {w w' : World} {row : Option Nat} (h : Cod p w) (hg : w.grownBy w' row) (hr : ∀ k, row = some k → p < k) : Cod p w' := by
  obtain ⟨so, len, cap, at', h⟩ := h
  have hp := cell_lt h.slice
  have keep : ∀ b, b < w.heap.size → b ≤ p → (∀ o, w'.cell? ⟨b, o, none⟩ = w.cell? ⟨b, o, none⟩) ∧ ∀ o, w'.frozen? ⟨b, o, none⟩ = w.frozen? ⟨b, o, none⟩ := fun b hlt hle =>
    have hk : w'.heap[b]? = w.heap[b]? := hg.block b hlt (fun e => by have := hr b e.symm; omega)
    ⟨fun o => World.cell?_of_block (w := w) (a := ⟨b, o, none⟩) hk, fun o => World.frozen?_of_block (w := w) (a := ⟨b, o, none⟩) hk⟩
  have k0 := keep p hp (Nat.le_refl _)
  refine ⟨so, len, cap, at', (k0.1 0).trans h.slice, (k0.1 1).trans h.at1, (k0.2 1).trans h.free, h.le, h.small, fun i hi => ?_⟩
  obtain ⟨b, off, x, e, hne, hc, hx⟩ := h.bytes i hi
  exact ⟨b, off, x, e, hne, ((keep b (cell_lt hc) (by omega)).1 _).trans hc, hx⟩
theorem cod_set {p : Nat} {w : World} (h : Cod p w) {a : Addr} (ha : p < a.block) (v : Value) : Cod p (w.setCell a v) :=
  cod_own (row := some a.block) h ⟨rfl, rfl, rfl, by rw [setCell_size]; exact Nat.le_refl _, fun k _ hne => Below.heap_setCell _ _ _ _ (fun e => hne (by rw [e]))⟩ (fun k hk => by injection hk with hk; omega)

theorem strOfNums_self (l : ByteArray) : strOfNums (l.data.toList.map fun b => (b.toNat : Int)) = l := by
  apply ByteArray.ext
  apply Array.ext'
  rw [strOfNums_data, List.map_map]
  exact (List.map_congr_left (fun b _ => by simp)).trans (List.map_id _)
theorem conv_nil (w : World) : (convert 22 9 (.slice none 0 0)).run Try.prog w = .ok (.string ⟨#[]⟩) w := by kernel_rfl
/-- A text of a few bytes. -/
def DataR (p : Nat) (w : World) (e : Ending) (w' : World) : Prop := ∃ r : ByteArray, e = .returned (.string r) ∧ r.size ≤ 13 ∧ Cod p w' ∧ Since p w w'
theorem make_cap (n : Nat) (hn : n ≤ 1000) (W : World) : (Instr.makeSlice 22 (.int .i64 0) (.int .i64 (n : Int))).run Try.prog W = .ok (.slice (some ⟨W.heap.size, 0, none⟩) 0 n) (W.alloc (zeroObj n)) := by
  obtain ⟨i, hi, h0, h1, h2⟩ := info_parts info5
  have := run_make (P := Try.prog) W 22 5 i _ Try.underlying22 hi h0 .i64 .i64 0 (n : Int) (by omega) (by omega) (by rw [h2]; omega) (by omega)
  rw [this, h1, Int.toNat_natCast, Nat.mul_one]
  rfl
theorem make_owns (n base : Nat) (W : World) (hn : n ≤ 1000) (hb : base ≤ W.heap.size) : (W.alloc (zeroObj n)).ownsRow base 5 1 (.slice (some ⟨W.heap.size, 0, none⟩) 0 n) (⟨#[]⟩ : ByteArray).size (strCells ⟨#[]⟩) :=
  ⟨rfl, .inr ⟨W.heap.size, n, madeCells #[.int .u8 0] n, rfl, hb, heap_alloc_new W _, Nat.zero_le _, by unfold maxLen; omega, by rw [size_madeCells, Nat.mul_one], rfl⟩⟩
theorem strCells_byte (l : ByteArray) (c : Nat) (hc : c < 256) : strCells (l ++ ⟨#[UInt8.ofNat c]⟩) = strCells l ++ [.int .u8 (c : Nat)] := by
  rw [strCells_append]
  congr 1
  simp [strCells]
  omega
theorem conv_row {B n : Nat} {v : Value} {l : ByteArray} {w : World} (h : w.ownsRow B 5 1 v n (strCells l)) (hn : n = l.size) : (convert 22 9 v).run Try.prog w = .ok (.string l) w := by
  subst hn
  rcases h.2 with ⟨rfl, h0⟩ | ⟨g, cap, cur, rfl, hbg, hg, hnc, hcm, hcs, htake⟩
  · have hl : l = ⟨#[]⟩ := by
      apply ByteArray.ext
      have : l.data.size = 0 := h0
      exact Array.eq_empty_of_size_eq_zero this
    subst hl
    exact conv_nil w
  · have hc := h.cells (g := g) rfl
    have := run_convert_bytes_arg (P := Try.prog) w 22 5 Try.underlying22 Try.underlying5 g 0 l.size cap (l.data.toList.map fun b => (b.toNat : Int)) (by simp) (fun i hi => by
      have hil : i < l.data.toList.length := by simpa using hi
      have e := hc i (.int .u8 (l.data.toList[i].toNat : Int)) (by rw [strCells, List.getElem?_map, List.getElem?_eq_getElem hil]; rfl)
      have ha : (⟨g, 0, none⟩ : Addr).add i = ⟨g, 0 + i, none⟩ := Addr.add_mid g 0 i
      rw [ha] at e
      rw [e]
      rw [List.getD, List.getElem?_map, List.getElem?_eq_getElem hil]; rfl) 9 Try.underlying9
    rw [strOfNums_self] at this
    exact this
set_option maxRecDepth 100000 in
set_option maxHeartbeats 1000000 in
theorem data_any (p : Nat) (w : World) (h : Cod p w) : Calls Try.prog 23 #[.pointer (some ⟨p, 0, none⟩)] w (DataR p w) := by
  have hlt := cod_lt h
  obtain ⟨ti, ti1, ti2, ti3, ti4⟩ := info_parts info5
  have TI1 := Lib.hid ti1
  have TI2 := Lib.hid ti2
  have TI3 := Lib.hid ti3
  have TI4 := Lib.hid ti4
  clear ti1 ti2 ti3 ti4
  go_enter Try.func23, Try.ntmps23
  go_wp2_with fail
  go_at_call 19
  refine (next_any p 5 _ h (by decide)).mono ?_
  rintro e w1 ⟨r1, rfl, h1a, h1b, _, hC1, hg1⟩
  obtain ⟨n1, rfl⟩ := Int.eq_ofNat_of_zero_le h1a
  have h1c := h1b (by decide)
  have m1 := make_cap n1 (by omega)
  clear h1a h1b
  go_wp2_with fail
  go_at_call 19
  refine (next_any p 6 _ hC1 (by decide)).mono ?_
  rintro e w2 ⟨r2, rfl, h2a, h2b, _, hC2, hg2⟩
  have G2 := grownBy_trans hg1 hg2
  have C2 := Lib.hid hC2
  have GG2 := Lib.hid G2
  clear hC1 hg1 hg2 G2
  go_wp2_with (go_at_call 19; (with_reducible refine (next_any p 14 _ C2.out (by decide)).mono ?_); rintro e w3 ⟨r3, rfl, h3a, h3b, _, hC3, hg3⟩; obtain ⟨n3, rfl⟩ := Int.eq_ofNat_of_zero_le h3a; have h3c := h3b (by decide); have m3 := make_cap n3 (by omega); clear h3a h3b)
  · skip
    have hM := make_owns n3 w.heap.size w3 (by omega) (Nat.le_trans GG2.out.size hg3.size)
    have hC := hC3.alloc (zeroObj n3)
    have hS := since_below (grownBy_trans GG2.out hg3) ((Below.refl _ _).alloc (Nat.le_refl _) (zeroObj n3))
    clear m1 m3 hC3 hg3
    go_loopw [4, 5] (fun v i wr => ∃ l : ByteArray, l.size ≤ n3 ∧ i = .int .i64 l.size ∧ wr.ownsRow w.heap.size 5 1 v l.size (strCells l) ∧ Cod p wr ∧ Since p w wr) (fun _ i _ => n3 - (intOf i).toNat)
    case atStart => exact ⟨⟨#[]⟩, Nat.zero_le _, rfl, hM, hC, hS⟩
    case round =>
      obtain ⟨l, hl, rfl, ho, hC, hS⟩ := hrel
      obtain ⟨so, cap, rfl, hcap⟩ := own_val ho
      obtain ⟨n, hn⟩ : ∃ n, n = l.size := ⟨_, rfl⟩
      rw [← hn] at ho hl
      have HO := Lib.hid ho
      have HC := Lib.hid hC
      have HS := Lib.hid hS
      have HN := Lib.hid hn
      clear hM ho hC hS hcap
      rw [← hn]
      clear hn
      by_cases hjl : n < n3
      · go_wp2_with fail
        go_at_call 19
        refine (next_any p 3 _ HC.out (by decide)).mono ?_
        rintro e w5 ⟨r5, rfl, h5a, h5b, _, hC5, hg5⟩
        obtain ⟨r, rfl⟩ := Int.eq_ofNat_of_zero_le h5a
        have h5c := h5b (by decide)
        have hne : (Value.slice so n cap).ownBlock ≠ some p := fun e => by have := (own_ge HO.out e).1; omega
        have HO5 := Lib.hid (World.ownsRow.kept HO.out hg5 (.inr hne))
        have HC5 := Lib.hid hC5
        have HS5 := Lib.hid (grownBy_trans HS.out hg5)
        clear h5a h5b hC5 hg5 hne
        go_wp2_with (at_builtin; refine wpList_append_own_at _ rfl _ _ 22 rfl w.heap.size 5 ti (.int .u8 0) 1 1 Try.underlying22 TI1.out TI2.out TI3.out TI4.out rfl (by decide) (.slice so n cap) n (strCells l) rfl (own_below HO5.out ((Below.refl _ _).alloc (Nat.le_refl _) _)) ⟨w5.heap.size, 0, none⟩ 1 1 [.int .u8 (97 + (r : Int))] rfl rfl (World.news_of_block (cs := #[.int .u8 (97 + (r : Int))]) (t := 5) (fr := (0, 0)) (heap_alloc_new w5 _)) (by simp [Value.oneCell']) (by unfold maxLen; omega) (by omega) (by have := HS5.out.size; simp; omega) ?_; intro v' w6 hown hgrow hnil hlies; have HOW := Lib.hid hown; have HG := Lib.hid hgrow; clear hown hgrow hlies hnil)
        go_roundw
        case rel =>
          have e1 := strCells_byte l (97 + r) (by omega)
          have e2 : (l ++ (⟨#[UInt8.ofNat (97 + r)]⟩ : ByteArray)).size = n + 1 := by rw [ByteArray.size_append, ← HN.out]; rfl
          refine ⟨l ++ (⟨#[UInt8.ofNat (97 + r)]⟩ : ByteArray), by omega, by rw [e2]; go_num, ?_, ?_, ?_⟩
          · rw [e1, e2]
            exact HOW.out
          · exact cod_own (HC5.out.alloc _) HG.out (fun k hk => by have := (own_ge HO5.out hk).1; omega)
          · exact since_own (since_below HS5.out ((Below.refl _ _).alloc (Nat.le_refl _) _)) HG.out (fun k hk => (own_ge HO5.out hk).1)
        case measure => simp [intOf]; omega
      · obtain rfl : n = n3 := by omega
        have hconv := conv_row HO.out (by rw [← HN.out])
        go_wp2
        go_ret
        exact ⟨l, rfl, by rw [← HN.out]; omega, HC.out, HS.out⟩
  · have hq : (r2 == 0) = false := by assumption
    rw [hq]
    have hM := make_owns n1 w.heap.size w2 (by omega) GG2.out.size
    have hC := C2.out.alloc (zeroObj n1)
    have hS := since_below GG2.out ((Below.refl _ _).alloc (Nat.le_refl _) (zeroObj n1))
    clear m1
    go_loopw [4, 5] (fun v i wr => ∃ l : ByteArray, l.size ≤ n1 ∧ i = .int .i64 l.size ∧ wr.ownsRow w.heap.size 5 1 v l.size (strCells l) ∧ Cod p wr ∧ Since p w wr) (fun _ i _ => n1 - (intOf i).toNat)
    case atStart => exact ⟨⟨#[]⟩, Nat.zero_le _, rfl, hM, hC, hS⟩
    case round =>
      obtain ⟨l, hl, rfl, ho, hC, hS⟩ := hrel
      obtain ⟨so, cap, rfl, hcap⟩ := own_val ho
      obtain ⟨n, hn⟩ : ∃ n, n = l.size := ⟨_, rfl⟩
      rw [← hn] at ho hl
      have HO := Lib.hid ho
      have HC := Lib.hid hC
      have HS := Lib.hid hS
      have HN := Lib.hid hn
      clear hM ho hC hS hcap
      rw [← hn]
      clear hn
      by_cases hjl : n < n1
      · go_wp2_with fail
        go_at_call 19
        refine (next_any p 3 _ HC.out (by decide)).mono ?_
        rintro e w5 ⟨r5, rfl, h5a, h5b, _, hC5, hg5⟩
        obtain ⟨r, rfl⟩ := Int.eq_ofNat_of_zero_le h5a
        have h5c := h5b (by decide)
        have hne : (Value.slice so n cap).ownBlock ≠ some p := fun e => by have := (own_ge HO.out e).1; omega
        have HO5 := Lib.hid (World.ownsRow.kept HO.out hg5 (.inr hne))
        have HC5 := Lib.hid hC5
        have HS5 := Lib.hid (grownBy_trans HS.out hg5)
        clear h5a h5b hC5 hg5 hne
        go_wp2_with (at_builtin; refine wpList_append_own_at _ rfl _ _ 22 rfl w.heap.size 5 ti (.int .u8 0) 1 1 Try.underlying22 TI1.out TI2.out TI3.out TI4.out rfl (by decide) (.slice so n cap) n (strCells l) rfl (own_below HO5.out ((Below.refl _ _).alloc (Nat.le_refl _) _)) ⟨w5.heap.size, 0, none⟩ 1 1 [.int .u8 (97 + (r : Int))] rfl rfl (World.news_of_block (cs := #[.int .u8 (97 + (r : Int))]) (t := 5) (fr := (0, 0)) (heap_alloc_new w5 _)) (by simp [Value.oneCell']) (by unfold maxLen; omega) (by omega) (by have := HS5.out.size; simp; omega) ?_; intro v' w6 hown hgrow hnil hlies; have HOW := Lib.hid hown; have HG := Lib.hid hgrow; clear hown hgrow hlies hnil)
        go_roundw
        case rel =>
          have e1 := strCells_byte l (97 + r) (by omega)
          have e2 : (l ++ (⟨#[UInt8.ofNat (97 + r)]⟩ : ByteArray)).size = n + 1 := by rw [ByteArray.size_append, ← HN.out]; rfl
          refine ⟨l ++ (⟨#[UInt8.ofNat (97 + r)]⟩ : ByteArray), by omega, by rw [e2]; go_num, ?_, ?_, ?_⟩
          · rw [e1, e2]
            exact HOW.out
          · exact cod_own (HC5.out.alloc _) HG.out (fun k hk => by have := (own_ge HO5.out hk).1; omega)
          · exact since_own (since_below HS5.out ((Below.refl _ _).alloc (Nat.le_refl _) _)) HG.out (fun k hk => (own_ge HO5.out hk).1)
        case measure => simp [intOf]; omega
      · obtain rfl : n = n1 := by omega
        have hconv := conv_row HO.out (by rw [← HN.out])
        go_wp2
        go_ret
        exact ⟨l, rfl, by rw [← HN.out]; omega, HC.out, HS.out⟩
end Go.Proofs.Ytiojpfljnbdonaa.ea
