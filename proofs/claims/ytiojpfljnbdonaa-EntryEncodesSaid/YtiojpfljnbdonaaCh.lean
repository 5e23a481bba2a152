/- Small lemmas that all layers use: the table below other blocks, bytes out of strings, slices of strings, a block known by its first values, the checksum of any text. -/
import Derived.Test.YtiojpfljnbdonaaCg
import Derived.WalkLawsBesides
import Derived.Deep.RegionWith
namespace Go.Proofs.Ytiojpfljnbdonaa.ch
open Go.ChangeShapes Go.WideShapes Go.ChangeAt Go.RowKit Go.Proofs.Ytiojpfljnbdonaa.cg Go.Proofs.Ytiojpfljnbdonaa.cp Go.Proofs.Ytiojpfljnbdonaa.ya
theorem uget_congr {s t : ByteArray} (a : Nat) : ∀ k : Nat, (∀ i, i < k → s.data.toList.getD (a + i) 0 = t.data.toList.getD (a + i) 0) → uget s a k = uget t a k
  | 0, _ => rfl
  | k + 1, h => by rw [uget, uget, uget_congr a k (fun i hi => h i (by omega)), h k (by omega)]
theorem uget_inj {s t : ByteArray} (a : Nat) : ∀ k : Nat, uget s a k = uget t a k → ∀ i, i < k → s.data.toList.getD (a + i) 0 = t.data.toList.getD (a + i) 0
  | 0, _, i, hi => by omega
  | k + 1, h, i, hi => by
    have h1 := uget_lt s a k
    have h2 := uget_lt t a k
    rw [uget, uget] at h
    have hp : 0 < 2 ^ (8 * k) := Nat.two_pow_pos _
    have d1 : (uget s a k + (s.data.toList.getD (a + k) 0).toNat * 2 ^ (8 * k)) / 2 ^ (8 * k) = (s.data.toList.getD (a + k) 0).toNat := by
      rw [Nat.add_mul_div_right _ _ hp, Nat.div_eq_of_lt h1, Nat.zero_add]
    have d2 : (uget t a k + (t.data.toList.getD (a + k) 0).toNat * 2 ^ (8 * k)) / 2 ^ (8 * k) = (t.data.toList.getD (a + k) 0).toNat := by
      rw [Nat.add_mul_div_right _ _ hp, Nat.div_eq_of_lt h2, Nat.zero_add]
    have e : (s.data.toList.getD (a + k) 0).toNat = (t.data.toList.getD (a + k) 0).toNat := by rw [← d1, ← d2, h]
    have h' : uget s a k = uget t a k := by rw [e] at h; omega
    by_cases hk : i = k
    · subst hk; exact UInt8.toNat_inj.1 e
    · exact uget_inj a k h' i (by omega)

theorem list_extract (s : ByteArray) (a b : Nat) : (s.extract a b).data.toList = (s.data.toList.take b).drop a := by
  simp [ByteArray.data_extract, List.drop_take]
theorem conv1d (W : World) (x : Int) : (convert 22 9 (.slice (some ⟨W.heap.size, 0, none⟩) 1 1)).run Try.prog (W.alloc (.cells #[.int .u8 x] 5)).drew = .ok (.string (strOfNums [x])) (W.alloc (.cells #[.int .u8 x] 5)).drew :=
  run_convert_bytes_arg (P := Try.prog) _ 22 5 Try.underlying22 Try.underlying5 W.heap.size 0 1 1 [x] rfl (fun i hi => by
    obtain rfl : i = 0 := by omega
    go_simp) 9 Try.underlying9
/-- The frame with byte k changed, as the law makes it. -/
def hurt (f : ByteArray) (k : Nat) (x : Int) : ByteArray := f.extract 0 k ++ strOfNums [x] ++ f.extract (k + 1) f.size

theorem slice_to (s : ByteArray) (y : Int) (j : Nat) (hy : y = j) (h2 : j ≤ s.size) (W : World) :
    (Instr.slice 9 (.string s) none (some (.int .i64 y)) none).run Try.prog W = .ok (.string (s.extract 0 j)) W := by
  subst hy
  have := run_slice_string_h (P := Try.prog) W 9 s Try.underlying9 .i64 (j : Int) (by omega) (by omega)
  simpa using this
theorem slice_from (s : ByteArray) (x : Int) (i n : Nat) (hx : x = i) (h2 : i ≤ s.size) (hn : s.size = n) (W : World) :
    (Instr.slice 9 (.string s) (some (.int .i64 x)) none none).run Try.prog W = .ok (.string (s.extract i n)) W := by
  subst hx; subst hn
  have := run_slice_string_l (P := Try.prog) W 9 s Try.underlying9 .i64 (i : Int) (by omega) (by omega)
  simpa using this

theorem slice_s (s : ByteArray) (x y : Int) (i j : Nat) (hx : x = i) (hy : y = j) (h1 : i ≤ j) (h2 : j ≤ s.size) (W : World) :
    (Instr.slice 9 (.string s) (some (.int .i64 x)) (some (.int .i64 y)) none).run Try.prog W = .ok (.string (s.extract i j)) W := by
  subst hx; subst hy
  have := run_slice_string (P := Try.prog) W 9 s .i64 .i64 (i : Int) (j : Int) Try.underlying9 (by omega) (by omega) (by omega)
  simpa using this
end Go.Proofs.Ytiojpfljnbdonaa.ch
