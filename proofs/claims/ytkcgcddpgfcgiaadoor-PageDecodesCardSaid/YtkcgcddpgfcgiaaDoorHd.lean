/- Bytes of pagemenddraw: some text. Spoilt at any text that is not too long. -/
import Derived.Test.YtkcgcddpgfcgiaaDoorHb
import Derived.Test.YtkcgcddpgfcgiaaDoorCy
namespace Go.Proofs.YtkcgcddpgfcgiaaDoor.hd
open Go.ChangeShapes Go.WideShapes Go.ChangeAt Go.RowKit Go.Proofs.YtkcgcddpgfcgiaaDoor.cm Go.Proofs.YtkcgcddpgfcgiaaDoor.cw Go.Proofs.YtkcgcddpgfcgiaaDoor.cp Go.Proofs.YtkcgcddpgfcgiaaDoor.cg Go.Proofs.YtkcgcddpgfcgiaaDoor.ch Go.Proofs.YtkcgcddpgfcgiaaDoor.cx Go.Proofs.YtkcgcddpgfcgiaaDoor.cy Go.Proofs.YtkcgcddpgfcgiaaDoor.ra Go.Proofs.YtkcgcddpgfcgiaaDoor.rb Go.Proofs.YtkcgcddpgfcgiaaDoor.rc Go.Proofs.YtkcgcddpgfcgiaaDoor.da Go.Proofs.YtkcgcddpgfcgiaaDoor.db Go.Proofs.YtkcgcddpgfcgiaaDoor.dd Go.Proofs.YtkcgcddpgfcgiaaDoor.de Go.Proofs.YtkcgcddpgfcgiaaDoor.ea Go.Proofs.YtkcgcddpgfcgiaaDoor.eb Go.Proofs.YtkcgcddpgfcgiaaDoor.hb

theorem zero_row (w : World) : BRow w.heap.size (List.replicate 256 0) (w.alloc (zeroObj 256)) :=
  ⟨by simp, List.length_replicate .., fun i hi => by rw [zero_cells w 256 i hi, List.getD, List.getElem?_replicate, if_pos hi]; rfl, fun i _ => World.frozen?_alloc_new ..⟩
theorem conv_brow {b cap : Nat} {ns : List Int} {w : World} (h : BRow b ns w) : (convert 22 9 (.slice (some ⟨b, 0, none⟩) 256 cap)).run Tryd.prog w = .ok (.string (strOfNums ns)) w :=
  run_convert_bytes_arg (P := Tryd.prog) _ 22 5 Tryd.underlying22 Tryd.underlying5 b 0 256 cap ns h.len (fun i hi => by rw [Nat.zero_add]; exact h.cells i hi) 9 Tryd.underlying9
def TextR (p : Nat) (w : World) (e : Ending) (w' : World) : Prop := ∃ x : ByteArray, e = .returned (.string x) ∧ Cod p w' ∧ Since p w w'
set_option maxRecDepth 4000 in
theorem bytes_any (p : Nat) (w : World) (h : Cod p w) : Calls Tryd.prog 20 #[.pointer (some ⟨p, 0, none⟩)] w (TextR p w) := by
  have hlt := cod_lt h
  have hmk := make_zero 256 256 rfl (by decide) w
  have hB := zero_row w
  have hC := h.alloc (zeroObj 256)
  have hS := since_below (grownBy_refl w (some p)) ((Below.refl _ _).alloc (Nat.le_refl _) (zeroObj 256))
  generalize w.alloc (zeroObj 256) = W1 at hmk hB hC hS
  generalize hbk : w.heap.size = bk at hmk hB hlt
  have HC := Lib.hid hC
  have HS := Lib.hid hS
  have HB := Lib.hid hB
  have HK := Lib.hid hbk
  clear hC hS hB h hbk
  go_enter Tryd.func20, Tryd.ntmps20
  go_wp2_with fail
  go_at_call 9
  refine (next_any p 256 _ HC.out (by decide)).mono ?_
  rintro e w2 ⟨c, rfl, hc0, hc1, _, hC2, hg2⟩
  have HB2 := Lib.hid (HB.out.grown hg2 (row_ne hlt))
  have HC2 := Lib.hid hC2
  have HS2 := Lib.hid (grownBy_trans HS.out hg2)
  have hc2 := hc1 (by decide)
  clear hC2 hg2 HB HC HS hc1
  go_wp2_with fail
  go_loopw [5] (fun i wr => ∃ j : Nat, j ≤ 256 ∧ i = .int .i64 j ∧ (∃ ns, BRow bk ns wr) ∧ Cod p wr ∧ Since p w wr) (fun i _ => 256 - (intOf i).toNat)
  case atStart => exact ⟨0, by omega, rfl, ⟨_, HB2.out⟩, HC2.out, HS2.out⟩
  case round =>
    clear HB2 HC2 HS2
    obtain ⟨j, hj, rfl, ⟨ns, hB⟩, hC, hS⟩ := hrel
    have HB := Lib.hid hB
    have HC := Lib.hid hC
    have HS := Lib.hid hS
    clear hB hC hS
    by_cases hj2 : j < 256
    · have q0 : (0 : Int) ≤ (j : Int) := by omega
      have q1 : (j : Int) < 256 := by omega
      have c1 := HB.out.cells j hj2
      have c2 := HB.out.free j hj2
      go_wp2_with fail
      go_roundw
      case rel => exact ⟨j + 1, by omega, by go_num, ⟨_, HB.out.set j hj2 _⟩, cod_set HC.out (by exact hlt) _, since_set HS.out (by show w.heap.size ≤ bk; have := HK.out; omega) _⟩
      case measure => simp [intOf]; omega
    · obtain rfl : j = 256 := by omega
      go_wp2_with fail
      go_at_call 9
      refine (next_any p 256 _ HC.out (by decide)).mono ?_
      rintro e w3 ⟨i0, rfl, hi0, hi1, _, hC3, hg3⟩
      obtain ⟨i, rfl⟩ := Int.eq_ofNat_of_zero_le hi0
      have hi2 := hi1 (by decide)
      have HB3 := Lib.hid (HB.out.grown hg3 (row_ne hlt))
      have HC3 := Lib.hid hC3
      have HS3 := Lib.hid (grownBy_trans HS.out hg3)
      clear hC3 hg3 hi0 hi1 HB HC HS
      go_wp2_with fail
      go_at_call 9
      refine (next_any p 256 _ HC3.out (by decide)).mono ?_
      rintro e w4 ⟨x, rfl, hx0, hx1, _, hC4, hg4⟩
      have HB4 := Lib.hid (HB3.out.grown hg4 (row_ne hlt))
      have HC4 := Lib.hid hC4
      have HS4 := Lib.hid (grownBy_trans HS3.out hg4)
      have hx2 := hx1 (by decide)
      clear hC4 hg4 HB3 HC3 HS3 hx1
      have q1 : (0 : Int) ≤ (i : Int) := by omega
      have q2 : (i : Int) < 256 := by omega
      have c1 := HB4.out.cells i (by omega)
      have c2 := HB4.out.free i (by omega)
      have hcv := conv_brow (cap := 256) (HB4.out.set i (by omega) x)
      go_wp2_with fail
      go_ret
      exact ⟨_, rfl, cod_set HC4.out (by exact hlt) _, since_set HS4.out (by show w.heap.size ≤ bk; have := HK.out; omega) _⟩
theorem spoilt_any (p : Nat) (s : ByteArray) (w : World) (h : Cod p w) (hs : s.size ≤ 900000) :
    Calls Tryd.prog 19 #[.pointer (some ⟨p, 0, none⟩), .string s] w (TextR p w) := by
  by_cases h0 : 0 < s.size
  · exact (spoilt_full p s w h h0 hs).mono fun e w' ⟨r, he, _, hC, hg⟩ => ⟨r, he, hC, hg⟩
  · obtain rfl : s = ⟨#[]⟩ := by
      apply ByteArray.ext
      exact Array.eq_empty_of_size_eq_zero (show s.data.size = 0 by show s.size = 0; omega)
    exact (spoilt_empty p w h).mono fun e w' ⟨r, he, _, hC, hg⟩ => ⟨r, he, hC, hg⟩
end Go.Proofs.YtkcgcddpgfcgiaaDoor.hd
