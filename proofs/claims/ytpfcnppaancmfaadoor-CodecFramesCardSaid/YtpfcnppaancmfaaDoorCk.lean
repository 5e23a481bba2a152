/- CodecBack: a number is read back, whatever stands before and behind it. -/
import Derived.Test.YtpfcnppaancmfaaDoorCa
namespace Go.Proofs.YtpfcnppaancmfaaDoor.ck
open Go.ChangeShapes Go.WideShapes Go.ChangeAt Go.RowKit Go.Proofs.YtpfcnppaancmfaaDoor.cm Go.Proofs.YtpfcnppaancmfaaDoor.cw Go.Proofs.YtpfcnppaancmfaaDoor.cp Go.Proofs.YtpfcnppaancmfaaDoor.cg Go.Proofs.YtpfcnppaancmfaaDoor.ca

theorem byteAt_range (n : Int) (i : Nat) : 0 ≤ byteAt n i ∧ byteAt n i < 256 := by unfold byteAt; omega
theorem put_byte (b c : ByteArray) (n : Int) {k i : Nat} (hi : i < k) : ((putS b n k ++ c).data.toList.getD (b.size + i) 0).toNat = (byteAt n i).toNat := by
  have hr := byteAt_range n i
  have e : (putS b n k ++ c).data.toList.getD (b.size + i) 0 = UInt8.ofNat (byteAt n i).toNat := by
    have h1 : b.data.size = b.size := rfl
    simp only [putS, strOfNums, ByteArray.data_append, Array.toList_append, List.getD]
    rw [List.append_assoc, List.getElem?_append_right (by simp [h1]), show b.size + i - b.data.toList.length = i from by simp [h1], List.getElem?_append_left (by simp [putN_length, hi])]
    simp [putN, hi]
  rw [e, UInt8.toNat_ofNat_of_lt']
  show _ < 256
  omega
theorem mod_step (n : Int) (j : Nat) (hj : j < 8) : n % 2 ^ (8 * (j + 1)) = n % 2 ^ (8 * j) + n / 2 ^ (8 * j) % 256 * 2 ^ (8 * j) := by
  have h : j = 0 ∨ j = 1 ∨ j = 2 ∨ j = 3 ∨ j = 4 ∨ j = 5 ∨ j = 6 ∨ j = 7 := by omega
  rcases h with rfl | rfl | rfl | rfl | rfl | rfl | rfl | rfl <;> simp only [Nat.mul_zero, Nat.reduceMul, Nat.reduceAdd, Int.pow_zero, Int.reducePow, Int.ediv_one] <;> omega
theorem uget_put (b c : ByteArray) (n : Int) (k : Nat) (hk : k ≤ 8) : ∀ j : Nat, j ≤ k → ((uget (putS b n k ++ c) b.size j : Nat) : Int) = n % 2 ^ (8 * j)
  | 0, _ => by simp [uget]
  | j + 1, hj => by
    have ih := uget_put b c n k hk j (by omega)
    have hr := byteAt_range n j
    rw [uget, put_byte b c n (by omega), mod_step n j (by omega), ← ih]
    rw [Int.natCast_add, Int.natCast_mul, Int.toNat_of_nonneg hr.1]
    simp [byteAt]
/-- What is read back of n in k bytes. -/
def backN (n : Int) (k : Nat) : Int := IntKind.i64.wrap (n % 2 ^ (8 * k))
theorem getN_put (b c : ByteArray) (n : Int) (k : Nat) (hk : k ≤ 8) : getN (putS b n k ++ c) b.size k = backN n k := by
  unfold getN backN
  rw [uget_put b c n k hk k (Nat.le_refl _)]
theorem backN_8 (n : Int) (h0 : -9223372036854775808 ≤ n) (h1 : n ≤ 9223372036854775807) : backN n 8 = n := by
  unfold backN
  rw [IntKind.wrap_i64]
  simp only [Nat.reduceMul, Int.reducePow]
  omega

theorem and_mask (n : Int) (j : Nat) (hj : j ≤ 56) : bits .and .i64 n (2 ^ j - 1) = IntKind.i64.wrap (n % 2 ^ j) := by
  have hp : 2 ^ j ≤ 2 ^ 56 := Nat.pow_le_pow_right (by decide) hj
  have h0 : 0 < 2 ^ j := Nat.two_pow_pos j
  have e : (2 : Int) ^ j - 1 = ((2 ^ j - 1 : Nat) : Int) := by
    rw [Int.natCast_sub h0]; simp
  have e2 : (2 : Int) ^ j = ((2 ^ j : Nat) : Int) := by simp
  have hd : (2 ^ j : Nat) ∣ 2 ^ 64 := Nat.pow_dvd_pow 2 (by omega)
  have hd2 : (2 : Int) ^ j ∣ 2 ^ 64 := by rw [e2]; exact_mod_cast hd
  unfold bits
  congr 1
  simp only [e, BitVec.toNat_and, BitVec.toNat_ofInt, show IntKind.i64.bits = 64 from rfl]
  rw [show ((2 ^ j - 1 : Nat) : Int) % ((2 ^ 64 : Nat) : Int) = ((2 ^ j - 1 : Nat) : Int) from by omega, Int.toNat_natCast, Nat.and_two_pow_sub_one_eq_mod]
  rw [← Int.emod_emod_of_dvd n hd2]
  rw [Int.natCast_emod, Int.toNat_of_nonneg (by omega), e2]
  rfl
theorem backN_low (n x : Int) (h1 : 1 ≤ x) (h7 : x < 8) : backN n x.toNat = bits .and .i64 n (wrap64 (wrap64 (2 ^ (8 * x).toNat) - 1)) := by
  obtain ⟨k, rfl⟩ := Int.eq_ofNat_of_zero_le (show 0 ≤ x by omega)
  have hp : 2 ^ (8 * k) ≤ 2 ^ 56 := Nat.pow_le_pow_right (by decide) (by omega)
  have h0 : 0 < 2 ^ (8 * k) := Nat.two_pow_pos _
  have e2 : (2 : Int) ^ (8 * k) = ((2 ^ (8 * k) : Nat) : Int) := by simp
  rw [show (8 * (k : Int)).toNat = 8 * k from by omega, Int.toNat_natCast, IntWalk.wrap64_in ((2 : Int) ^ (8 * k)) (by rw [e2]; omega), IntWalk.wrap64_in _ (by rw [e2]; omega), and_mask n (8 * k) (by omega)]
  rfl

theorem put_x (s : ByteArray) (n x : Int) (w : World) (hs : s.size ≤ 1099511627776) (h1 : 1 ≤ x) (h8 : x ≤ 8) :
    Calls Tryd.prog 9 #[.string s, .int .i64 n, .int .i64 x] w fun e w' => e = .returned (.string (putS s n x.toNat)) ∧ Below w.heap.size w w' := by
  have := put_yes s n x.toNat w hs (by omega) (by omega)
  rwa [show ((x.toNat : Nat) : Int) = x from by omega] at this
theorem get_x (b c : ByteArray) (n x : Int) (w : World) (hb : b.size ≤ 300) (hc : c.size ≤ 300) (h1 : 1 ≤ x) (h8 : x ≤ 8) :
    Calls Tryd.prog 11 #[.string (putS b n x.toNat ++ c), .int .i64 (b.size : Int), .int .i64 x] w fun e w' => e = .returned (.tuple #[.int .i64 (backN n x.toNat), .int .i64 0]) ∧ w = w' := by
  have hz : (putS b n x.toNat ++ c).size = b.size + x.toNat + c.size := by rw [ByteArray.size_append, putS_size]
  have := get_yes (putS b n x.toNat ++ c) b.size x.toNat w (by omega) (by omega) (by omega) (by omega)
  rwa [show ((x.toNat : Nat) : Int) = x from by omega, getN_put b c n x.toNat (by omega)] at this

theorem back_long (n z : Int) (b c : ByteArray) (w : World) (hw : TabOk w) (h : 300 < b.size ∨ 300 < c.size) :
    Calls Tryd.prog 4 #[.int .i64 n, .int .u8 z, .string b, .string c] w fun e w' => e = .returned (.bool true) ∧ Below w.heap.size w w' := by
  by_cases h1 : 300 < b.size
  · go_enter Tryd.func4, Tryd.ntmps4
    go_wp2_with (go_at_call 8; refine (awake_any _ hw).mono ?_; rintro e w1 ⟨rfl, hb1⟩)
    go_ret
    exact ⟨rfl, by assumption⟩
  · have h2 : 300 < c.size := by omega
    have hd : decide (300 < (c.size : Int)) = true := by simp; omega
    go_enter Tryd.func4, Tryd.ntmps4
    go_wp2_with (go_at_call 8; refine (awake_any _ hw).mono ?_; rintro e w1 ⟨rfl, hb1⟩)
    go_ret
    exact ⟨rfl, by assumption⟩
theorem back_walk (n z : Int) (b c : ByteArray) (w : World) (hw : TabOk w) (hb : b.size ≤ 300) (hc : c.size ≤ 300) (hz : 0 ≤ z) (hz2 : z ≤ 255) (hn0 : -9223372036854775808 ≤ n) (hn1 : n ≤ 9223372036854775807) :
    Calls Tryd.prog 4 #[.int .i64 n, .int .u8 z, .string b, .string c] w fun e w' => e = .returned (.bool true) ∧ Below w.heap.size w w' := by
  have hsz : ((putS b n (1 + z % 8).toNat).size : Int) = b.size + (1 + z % 8) := by rw [putS_size]; omega
  have hcat : (putS b n (1 + z % 8).toNat).size + c.size ≤ 9223372036854775807 := by rw [putS_size]; omega
  have hz1 := hw
  by_cases h7 : 1 + z % 8 < 8
  · have HB := backN_low n (1 + z % 8) (by omega) h7
    clear hn0 hn1 hz1
    go_enter Tryd.func4, Tryd.ntmps4
    go_wp2_with (first
      | (go_at_call 8; refine (awake_any _ hw).mono ?_; rintro e w1 ⟨rfl, hb1⟩)
      | (go_at_call 9; refine (put_x _ _ _ _ (by omega) (by omega) (by omega)).mono ?_; rintro e w2 ⟨rfl, hb2⟩)
      | (go_at_call 11; refine (get_x _ _ _ _ _ (by omega) (by omega) (by omega) (by omega)).mono ?_; rintro e w3 ⟨rfl, rfl⟩))
    go_ret
    exact ⟨rfl, hb1.trans (hb2.mono hb1.size)⟩
  · have e8 : z % 8 = 7 := by omega
    have HB : backN n (1 + z % 8).toNat = n := by rw [e8]; exact backN_8 n hn0 hn1
    have E8 := Lib.hid e8
    clear hn0 hn1 hz1 e8
    go_enter Tryd.func4, Tryd.ntmps4
    go_wp2_with (first
      | (go_at_call 8; refine (awake_any _ hw).mono ?_; rintro e w1 ⟨rfl, hb1⟩)
      | (go_at_call 9; refine (put_x _ _ _ _ (by omega) (by omega) (by omega)).mono ?_; rintro e w2 ⟨rfl, hb2⟩)
      | (go_at_call 11; refine (get_x _ _ _ _ _ (by omega) (by omega) (by omega) (by omega)).mono ?_; rintro e w3 ⟨rfl, rfl⟩))
    go_ret
    exact ⟨rfl, hb1.trans (hb2.mono hb1.size)⟩
end Go.Proofs.YtpfcnppaancmfaaDoor.ck
