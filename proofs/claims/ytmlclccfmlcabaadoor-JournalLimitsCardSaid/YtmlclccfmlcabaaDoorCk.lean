/- Numbers that are put and got back. -/
import Derived.Test.YtmlclccfmlcabaaDoorCh
namespace Go.Proofs.YtmlclccfmlcabaaDoor.ck
open Go.ChangeShapes Go.WideShapes Go.ChangeAt Go.RowKit Go.Proofs.YtmlclccfmlcabaaDoor.cg Go.Proofs.YtmlclccfmlcabaaDoor.ch Go.Proofs.YtmlclccfmlcabaaDoor.cp Go.Proofs.YtmlclccfmlcabaaDoor.ya
theorem byteAt_range (n : Int) (i : Nat) : 0 ≤ byteAt n i ∧ byteAt n i < 256 := by unfold byteAt; omega
theorem put_byte (b c : ByteArray) (n : Int) {k i : Nat} (hi : i < k) : ((putS b n k ++ c).data.toList.getD (b.size + i) 0).toNat = (byteAt n i).toNat := by
  have hr := byteAt_range n i
  have e : (putS b n k ++ c).data.toList.getD (b.size + i) 0 = UInt8.ofNat (byteAt n i).toNat := by
    have h1 : b.data.size = b.size := rfl
    simp only [putS, strOfNums, ByteArray.data_append, Array.toList_append, List.getD]
    rw [List.append_assoc, List.getElem?_append_right (by simp [h1]), show b.size + i - b.data.toList.length = i from by simp [h1], List.getElem?_append_left (by simp [putN_length, hi])]
    simp [putN, hi]
  rw [e, UInt8.toNat_ofNat_of_lt']
  show _ < 256
  omega
theorem mod_step (n : Int) (j : Nat) (hj : j < 8) : n % 2 ^ (8 * (j + 1)) = n % 2 ^ (8 * j) + n / 2 ^ (8 * j) % 256 * 2 ^ (8 * j) := by
  have h : j = 0 ∨ j = 1 ∨ j = 2 ∨ j = 3 ∨ j = 4 ∨ j = 5 ∨ j = 6 ∨ j = 7 := by omega
  rcases h with rfl | rfl | rfl | rfl | rfl | rfl | rfl | rfl <;> simp only [Nat.mul_zero, Nat.reduceMul, Nat.reduceAdd, Int.pow_zero, Int.reducePow, Int.ediv_one] <;> omega
theorem uget_put (b c : ByteArray) (n : Int) (k : Nat) (hk : k ≤ 8) : ∀ j : Nat, j ≤ k → ((uget (putS b n k ++ c) b.size j : Nat) : Int) = n % 2 ^ (8 * j)
  | 0, _ => by simp [uget]
  | j + 1, hj => by
    have ih := uget_put b c n k hk j (by omega)
    have hr := byteAt_range n j
    rw [uget, put_byte b c n (by omega), mod_step n j (by omega), ← ih]
    rw [Int.natCast_add, Int.natCast_mul, Int.toNat_of_nonneg hr.1]
    simp [byteAt]
/-- What is read back of n in k bytes. -/
def backN (n : Int) (k : Nat) : Int := IntKind.i64.wrap (n % 2 ^ (8 * k))
theorem getN_put (b c : ByteArray) (n : Int) (k : Nat) (hk : k ≤ 8) : getN (putS b n k ++ c) b.size k = backN n k := by
  unfold getN backN
  rw [uget_put b c n k hk k (Nat.le_refl _)]
theorem backN_8 (n : Int) (h0 : -9223372036854775808 ≤ n) (h1 : n ≤ 9223372036854775807) : backN n 8 = n := by
  unfold backN
  rw [IntKind.wrap_i64]
  simp only [Nat.reduceMul, Int.reducePow]
  omega

end Go.Proofs.YtmlclccfmlcabaaDoor.ck
