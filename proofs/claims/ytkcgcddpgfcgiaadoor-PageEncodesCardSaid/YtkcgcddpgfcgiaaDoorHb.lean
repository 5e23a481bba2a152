/- sealed: some bytes with the reference's seal behind them. -/
import Derived.Test.YtkcgcddpgfcgiaaDoorHa
import Derived.Test.YtkcgcddpgfcgiaaDoorEb
import Derived.Lib.ConvBytes
namespace Go.Proofs.YtkcgcddpgfcgiaaDoor.hb
open Go.ChangeShapes Go.WideShapes Go.ChangeAt Go.RowKit Go.Proofs.YtkcgcddpgfcgiaaDoor.cm Go.Proofs.YtkcgcddpgfcgiaaDoor.cw Go.Proofs.YtkcgcddpgfcgiaaDoor.cp Go.Proofs.YtkcgcddpgfcgiaaDoor.cg Go.Proofs.YtkcgcddpgfcgiaaDoor.ch Go.Proofs.YtkcgcddpgfcgiaaDoor.cx Go.Proofs.YtkcgcddpgfcgiaaDoor.ra Go.Proofs.YtkcgcddpgfcgiaaDoor.rb Go.Proofs.YtkcgcddpgfcgiaaDoor.rc Go.Proofs.YtkcgcddpgfcgiaaDoor.da Go.Proofs.YtkcgcddpgfcgiaaDoor.db Go.Proofs.YtkcgcddpgfcgiaaDoor.dd Go.Proofs.YtkcgcddpgfcgiaaDoor.de Go.Proofs.YtkcgcddpgfcgiaaDoor.ea Go.Proofs.YtkcgcddpgfcgiaaDoor.eb Go.Proofs.YtkcgcddpgfcgiaaDoor.ha
open Go.Lib (bytesWorld bytesCells bytesWorld_at_old bytesWorld_at_new bytesWorld_size bytesWorld_cell)

/-- A row of 256 bytes that may be written. -/
structure BRow (b : Nat) (ns : List Int) (w : World) : Prop where
  lt : b < w.heap.size
  len : ns.length = 256
  cells : ∀ i, i < 256 → w.cell? ⟨b, i, none⟩ = some (.int .u8 (ns.getD i 0))
  free : ∀ i, i < 256 → w.frozen? ⟨b, i, none⟩ = false
theorem BRow.grown {b : Nat} {ns : List Int} {w w' : World} {row : Option Nat} (h : BRow b ns w) (hg : w.grownBy w' row) (hne : row ≠ some b) : BRow b ns w' :=
  ⟨Nat.lt_of_lt_of_le h.lt hg.size, h.len, fun i hi => (World.cell?_of_block (w := w) (a := ⟨b, i, none⟩) (hg.block b h.lt (fun e => hne e.symm))).trans (h.cells i hi),
    fun i hi => (World.frozen?_of_block (w := w) (a := ⟨b, i, none⟩) (hg.block b h.lt (fun e => hne e.symm))).trans (h.free i hi)⟩
theorem BRow.set {b : Nat} {ns : List Int} {w : World} (h : BRow b ns w) (i : Nat) (hi : i < 256) (x : Int) : BRow b (ns.set i x) (w.setCell ⟨b, i, none⟩ (.int .u8 x)) := by
  have hl := h.len
  refine ⟨by rw [setCell_size]; exact h.lt, by rw [List.length_set]; exact h.len, fun k hk => ?_, fun k hk => by rw [World.frozen?_setCell]; exact h.free k hk⟩
  by_cases e : k = i
  · subst e
    rw [World.cell?_setCell_same (h := h.cells k hk)]
    simp [List.getD, List.getElem?_set_self (show k < ns.length by omega)]
  · rw [World.cell?_setCell_other (h := fun e' => e (by injection e' with _ e' _; exact e'.symm)), h.cells k hk]
    simp [List.getD, List.getElem?_set_ne (show i ≠ k by omega)]
theorem bytesWorld_below (w : World) (s : ByteArray) : Below w.heap.size w (bytesWorld w 5 s) :=
  ⟨by simp [bytesWorld, World.freeze]; rfl, by simp [bytesWorld, World.freeze], by simp [bytesWorld, World.freeze]; rfl, by rw [bytesWorld_size]; omega, fun k hk => bytesWorld_at_old w 5 s k hk⟩
theorem bytesWorld_row (w : World) (s : ByteArray) (hs : s.size = 256) : ∃ ns, BRow w.heap.size ns (bytesWorld w 5 s) := by
  refine ⟨s.data.toList.map fun b => (b.toNat : Int), by rw [bytesWorld_size]; omega, by simpa using hs, fun i hi => ?_, fun i hi => ?_⟩
  · rw [bytesWorld_cell w 5 s i (by omega)]
    have hl : i < s.data.toList.length := by simpa using (by omega : i < s.size)
    simp [List.getD, List.getElem?_eq_getElem hl]
  · have hb := bytesWorld_at_new w 5 s
    have hsz : i < (bytesCells w 5 s).size := by
      simp [bytesCells]
      have : s.data.size = 256 := hs
      omega
    unfold World.frozen?
    rw [hb]
    simp
    omega
theorem cap_ge (w : World) : 256 ≤ grownCap w 256 0 5 :=
  grownCap_ge w 256 0 5

def SealedR (p : Nat) (w : World) (e : Ending) (w' : World) : Prop := ∃ x : ByteArray, e = .returned (.string x) ∧ Cod p w' ∧ Since p w w'
set_option maxRecDepth 4000 in
theorem sealed_any (p : Nat) (s : ByteArray) (w : World) (h : Cod p w) (hs : s.size = 256) :
    Calls Tryd.prog 25 #[.pointer (some ⟨p, 0, none⟩), .string s] w (SealedR p w) := by
  have hlt := cod_lt h
  have hcv := Go.Lib.run_convert_string_bytes (P := Tryd.prog) w 9 22 5 s Tryd.underlying9 Tryd.underlying22 Tryd.underlying5
  rw [hs] at hcv
  have hcap := cap_ge w
  obtain ⟨ns, hB⟩ := bytesWorld_row w s hs
  have hC := cod_keep h (bytesWorld_below w s)
  have hS := since_below (grownBy_refl w (some p)) (bytesWorld_below w s)
  generalize bytesWorld w 5 s = W1 at hcv hB hC hS
  generalize grownCap w 256 0 5 = cap at hcv hcap
  generalize hbk : w.heap.size = bk at hcv hB hlt
  have HC := Lib.hid hC
  have HS := Lib.hid hS
  have HB := Lib.hid hB
  have hlt1 := hB.lt
  have HK := Lib.hid hbk
  clear hC hS hB h hbk
  go_enter Tryd.func25, Tryd.ntmps25
  go_wp2_with fail
  go_at_call 9
  refine (next_any p 4 _ HC.out (by decide)).mono ?_
  rintro e w2 ⟨k0, rfl, hk0, hk1, _, hC2, hg2⟩
  obtain ⟨k, rfl⟩ := Int.eq_ofNat_of_zero_le hk0
  have HB2 := Lib.hid (HB.out.grown hg2 (row_ne hlt))
  have HC2 := Lib.hid hC2
  have HS2 := Lib.hid (grownBy_trans HS.out hg2)
  clear hC2 hg2 HB HC HS
  go_wp2_with fail
  go_loopw [6] (fun i wr => ∃ k : Nat, k ≤ 4 ∧ i = .int .i64 k ∧ (∃ ns, BRow bk ns wr) ∧ Cod p wr ∧ Since p w wr) (fun i _ => (intOf i).toNat)
  case atStart => exact ⟨k, by have := hk1 (by decide); omega, rfl, ⟨_, HB2.out⟩, HC2.out, HS2.out⟩
  case round =>
    clear HB2 HC2 HS2
    obtain ⟨k, hk4, rfl, ⟨ns, hB⟩, hC, hS⟩ := hrel
    have HB := Lib.hid hB
    have HC := Lib.hid hC
    have HS := Lib.hid hS
    clear hB hC hS
    by_cases hk : 0 < k
    · have q0 : (k : Int) > 0 := by omega
      go_wp2_with fail
      go_at_call 9
      refine (next_any p 244 _ HC.out (by decide)).mono ?_
      rintro e w3 ⟨i0, rfl, hi0, hi1, _, hC3, hg3⟩
      obtain ⟨i, rfl⟩ := Int.eq_ofNat_of_zero_le hi0
      have hi2 := hi1 (by decide)
      have HB3 := Lib.hid (HB.out.grown hg3 (row_ne hlt))
      have HC3 := Lib.hid hC3
      have HS3 := Lib.hid (grownBy_trans HS.out hg3)
      clear hC3 hg3 hi0 hi1 HB HC HS
      go_wp2_with fail
      go_at_call 9
      refine (next_any p 256 _ HC3.out (by decide)).mono ?_
      rintro e w4 ⟨x, rfl, _, _, _, hC4, hg4⟩
      have HB4 := Lib.hid (HB3.out.grown hg4 (row_ne hlt))
      have HC4 := Lib.hid hC4
      have HS4 := Lib.hid (grownBy_trans HS3.out hg4)
      clear hC4 hg4 HB3 HC3 HS3
      have q1 : (0 : Int) ≤ (i : Int) := by omega
      have q2 : (i : Int) < 256 := by omega
      have c1 := HB4.out.cells i (by omega)
      have c2 := HB4.out.free i (by omega)
      have q3 : IntKind.i64.wrap ((k : Int) - 1) = (k : Int) - 1 := IntWalk.i64_in _ ⟨by omega, by omega⟩
      go_wp2_with fail
      go_roundw
      case rel => exact ⟨k - 1, by omega, by go_num, ⟨_, HB4.out.set i (by omega) _⟩, cod_set HC4.out (by exact hlt) _, since_set HS4.out (by show w.heap.size ≤ bk; have := HK.out; omega) _⟩
      case measure => simp [intOf]; omega
    · obtain rfl : k = 0 := by omega
      have hcv : (convert 22 9 (.slice (some ⟨bk, 0, none⟩) 244 cap)).run Tryd.prog wr = .ok (.string (strOfNums (ns.take 244))) wr :=
        run_convert_bytes_arg (P := Tryd.prog) _ 22 5 Tryd.underlying22 Tryd.underlying5 bk 0 244 cap (ns.take 244) (by rw [List.length_take, HB.out.len]; rfl) (fun i hi => by
          rw [Nat.zero_add, HB.out.cells i (by omega)]
          simp [List.getD, hi]) 9 Tryd.underlying9
      have hx : (strOfNums (ns.take 244)).size = 244 := by rw [strOfNums_size, List.length_take, HB.out.len]; rfl
      generalize strOfNums (ns.take 244) = x at hcv hx
      have hcap2 : (244 : Int) ≤ (cap : Int) := by omega
      go_wp2_with fail
      go_at_call 43
      refine (seal_any x _ hx).mono ?_
      rintro e w5 ⟨rfl, hb5⟩
      go_wp2_with fail
      go_ret
      exact ⟨_, rfl, cod_keep HC.out hb5, since_below HS.out hb5⟩
end Go.Proofs.YtkcgcddpgfcgiaaDoor.hb
