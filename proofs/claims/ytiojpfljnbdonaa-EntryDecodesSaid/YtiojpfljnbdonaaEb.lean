/- The draws of cells, numbers and pages. -/
import Derived.Test.YtiojpfljnbdonaaEa
namespace Go.Proofs.Ytiojpfljnbdonaa.eb
open Go.ChangeShapes Go.WideShapes Go.ChangeAt Go.RowKit Go.Proofs.Ytiojpfljnbdonaa.cx Go.Proofs.Ytiojpfljnbdonaa.da Go.Proofs.Ytiojpfljnbdonaa.ea Go.Proofs.Ytiojpfljnbdonaa.ra Go.Proofs.Ytiojpfljnbdonaa.rb Go.Proofs.Ytiojpfljnbdonaa.rc Go.Proofs.Ytiojpfljnbdonaa.ya
def CellR (p : Nat) (w : World) (e : Ending) (w' : World) : Prop := ∃ c : CellM, e = .returned (.agg #[.bool c.set, .string c.data]) ∧ cellB c = true ∧ Cod p w' ∧ Since p w w'
theorem cell_vals2 (a b c d : Value) : (([a, b].set 0 c).set 1 d) = [c, d] := rfl
theorem row_ne {p b : Nat} (h : p < b) : some p ≠ some b := fun e => by injection e with e; omega
set_option maxRecDepth 100000 in
theorem cell_any (p : Nat) (w : World) (h : Cod p w) : Calls Try.prog 39 #[.pointer (some ⟨p, 0, none⟩)] w (CellR p w) := by
  have hlt := cod_lt h
  have HR := Lib.hid (RowAt.newA #[.bool false, .string ⟨#[]⟩] w 24)
  have HC := Lib.hid (h.alloc (.cells #[.bool false, .string ⟨#[]⟩] 24))
  have HS := Lib.hid (since_below (grownBy_refl w (some p)) ((Below.refl _ _).alloc (Nat.le_refl _) (.cells #[.bool false, .string ⟨#[]⟩] 24)))
  clear h
  go_enter Try.func39, Try.ntmps39
  go_wp2_with (first
    | (go_at_call 19; (with_reducible refine (next_any p 3 _ HC.out (by decide)).mono ?_); rintro e w1 ⟨r1, rfl, h1a, h1b, _, hC1, hg1⟩; have HR1 := Lib.hid (HR.out.grown hg1 (row_ne hlt)); have HC1 := Lib.hid hC1; have HS1 := Lib.hid (grownBy_trans HS.out hg1); have c0 := HR1.out.cells 0 _ rfl; have c1 := HR1.out.cells 1 _ rfl; have f0 := HR1.out.free 0; have f1 := HR1.out.free 1; clear hC1 hg1)
    | (go_at_call 23; (with_reducible refine (data_any p _ HC1.out).mono ?_); rintro e w2 ⟨d, rfl, hd, hC2, hg2⟩; clear c0 c1 f0 f1; have HR2 := Lib.hid (HR1.out.grown hg2 (row_ne hlt)); have HC2 := Lib.hid hC2; have HS2 := Lib.hid (grownBy_trans HS1.out hg2); have c0 := HR2.out.cells 0 _ rfl; have c1 := HR2.out.cells 1 _ rfl; have f0 := HR2.out.free 0; have f1 := HR2.out.free 1; clear hC2 hg2))
  · have hrow := (HR1.out.set 0 (by decide) (.bool false)).set 1 (by decide) (.string ⟨#[]⟩)
    refine bodyPost_ret (res1 rfl rfl hrow Try.underlying24 rfl info_cell) rfl ⟨noCell, rfl, by decide +kernel, ?_, ?_⟩
    · exact cod_set (cod_set HC1.out (by exact hlt) _) (by exact hlt) _
    · exact since_set (since_set HS1.out (by exact Nat.le_refl _) _) (by exact Nat.le_refl _) _
  · have hrow := (HR2.out.set 0 (by decide) (.bool true)).set 1 (by decide) (.string (d.extract 0 (min (d.size : Int) 12).toNat))
    refine bodyPost_ret (res1 rfl rfl hrow Try.underlying24 rfl info_cell) rfl ⟨⟨true, d.extract 0 (min (d.size : Int) 12).toNat⟩, rfl, ?_, ?_, ?_⟩
    · unfold cellB
      simp [ByteArray.size_extract]
      omega
    · exact cod_set (cod_set HC2.out (by exact hlt) _) (by exact hlt) _
    · exact since_set (since_set HS2.out (by exact Nat.le_refl _) _) (by exact Nat.le_refl _) _

def IntR (p : Nat) (w : World) (e : Ending) (w' : World) : Prop := ∃ n : Int, e = .returned (.int .i64 n) ∧ Cod p w' ∧ Since p w w'
theorem pick16 (l : List Value) (h : ∀ v ∈ l, ∃ n : Int, v = .int .i64 n) (i : Nat) (hi : i < l.length) : ∃ n : Int, l[i]? = some (.int .i64 n) := by
  obtain ⟨n, hn⟩ := h l[i] (List.getElem_mem hi)
  exact ⟨n, by rw [List.getElem?_eq_getElem hi, hn]⟩
theorem row_int {b : Nat} {l : List Value} {w : World} (hr : RowAt b l w) (h : ∀ v ∈ l, ∃ n : Int, v = .int .i64 n) (i : Nat) (hi : i < l.length) : ∃ n : Int, w.cell? ⟨b, i, none⟩ = some (.int .i64 n) := by
  obtain ⟨n, hn⟩ := pick16 l h i hi
  exact ⟨n, hr.cells i _ hn⟩
set_option maxRecDepth 100000 in
theorem int_any (p : Nat) (w : World) (h : Cod p w) : Calls Try.prog 24 #[.pointer (some ⟨p, 0, none⟩)] w (IntR p w) := by
  have hlt := cod_lt h
  go_enter Try.func24, Try.ntmps24
  go_wp2_with (first
    | (go_at_call 19; (with_reducible refine (next_any p 10 _ h (by decide)).mono ?_); rintro e w1 ⟨r1, rfl, h1a, h1b, _, hC1, hg1⟩; have HC1 := Lib.hid hC1; have HS1 := Lib.hid hg1; clear hC1 hg1)
    | (go_at_call 19; (with_reducible refine (next_any p 3 _ HC1.out (by decide)).mono ?_); rintro e w2 ⟨r2, rfl, h2a, h2b, _, hC2, hg2⟩)
    | (go_at_call 19; (with_reducible refine (next_any p 20 _ HC1.out (by decide)).mono ?_); rintro e w2 ⟨r2, rfl, h2a, h2b, _, hC2, hg2⟩))
  · go_ret
    exact ⟨_, rfl, hC2, grownBy_trans HS1.out hg2⟩
  · go_at_call 19
    refine (next_any p 16 _ (HC1.out.alloc _) (by decide)).mono ?_
    rintro e w2 ⟨r2, rfl, h2a, h2b, _, hC2, hg2⟩
    obtain ⟨r, rfl⟩ := Int.eq_ofNat_of_zero_le h2a
    have h2c := h2b (by decide)
    have hp1 : p < w1.heap.size := Nat.lt_of_lt_of_le hlt HS1.out.size
    have hrow := (RowAt.newA _ w1 _).grown hg2 (row_ne hp1)
    obtain ⟨z, hcell⟩ := row_int hrow (by simp) r (by simp; omega)
    have HC2 := Lib.hid hC2
    have HS2 := Lib.hid (grownBy_trans (grownBy_alloc HS1.out _) hg2)
    have q0 : (0 : Int) ≤ (r : Int) := by omega
    clear hrow hC2 hg2 h2a h2b
    go_wp2
    go_ret
    exact ⟨_, rfl, HC2.out, HS2.out⟩
  · go_ret
    exact ⟨_, rfl, hC2, grownBy_trans HS1.out hg2⟩

theorem cod_cells {p b : Nat} : ∀ (us : List Value) (o : Nat) {w : World}, Cod p w → p < b → Cod p (w.setCells b o us)
  | [], _, _, h, _ => h
  | u :: r, o, w, h, hb => by
    rw [World.setCells]
    exact cod_cells r (o + 1) (cod_set h (by exact hb) u) hb
theorem since_cells {p b : Nat} {w0 : World} : ∀ (us : List Value) (o : Nat) {w : World}, Since p w0 w → w0.heap.size ≤ b → Since p w0 (w.setCells b o us)
  | [], _, _, h, _ => h
  | u :: r, o, w, h, hb => by
    rw [World.setCells]
    exact since_cells r (o + 1) (since_set h (by exact hb) u) hb
end Go.Proofs.Ytiojpfljnbdonaa.eb
