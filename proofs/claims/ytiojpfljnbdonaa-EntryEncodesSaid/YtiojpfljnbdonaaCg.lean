/- What Get of layer 1 returns, that of the program and that of the reference. -/
import Derived.Test.YtiojpfljnbdonaaCp
namespace Go.Proofs.Ytiojpfljnbdonaa.cg
open Go.ChangeShapes Go.WideShapes Go.ChangeAt Go.RowKit Go.Proofs.Ytiojpfljnbdonaa.cp Go.Proofs.Ytiojpfljnbdonaa.ya
/-- The unsigned number in k bytes from the index a on. -/
def uget (s : ByteArray) (a : Nat) : Nat → Nat
  | 0 => 0
  | k + 1 => uget s a k + (s.data.toList.getD (a + k) 0).toNat * 2 ^ (8 * k)
def getN (s : ByteArray) (a k : Nat) : Int := IntKind.i64.wrap (uget s a k : Nat)

theorem uget_lt (s : ByteArray) (a : Nat) : ∀ k : Nat, uget s a k < 2 ^ (8 * k)
  | 0 => by simp [uget]
  | k + 1 => by
    have ih := uget_lt s a k
    have hb := (s.data.toList.getD (a + k) 0).toNat_lt
    rw [uget, show 8 * (k + 1) = 8 * k + 8 from by omega, Nat.pow_add]
    generalize (s.data.toList.getD (a + k) 0).toNat = b at hb
    have : b * 2 ^ (8 * k) ≤ 255 * 2 ^ (8 * k) := Nat.mul_le_mul_right _ (by omega)
    omega
theorem pow8_le (j : Nat) (hj : j < 8) : 2 ^ (8 * j) ≤ 2 ^ 56 := Nat.pow_le_pow_right (by decide) (by omega)
theorem getN_small (s : ByteArray) (a j : Nat) (hj : j < 8) : getN s a j = (uget s a j : Nat) := by
  have h1 := uget_lt s a j
  have h2 := pow8_le j hj
  unfold getN
  rw [IntKind.wrap_i64]
  omega
theorem i64_ofInt (z : Int) : BitVec.ofInt IntKind.i64.bits (IntKind.i64.wrap z) = BitVec.ofInt IntKind.i64.bits z := by
  apply BitVec.eq_of_toNat_eq
  rw [BitVec.toNat_ofInt, BitVec.toNat_ofInt, IntKind.wrap_i64]
  simp only [show IntKind.i64.bits = 64 from rfl]
  omega
theorem or_join (x b i : Nat) (hx : x < 2 ^ i) (hb : b * 2 ^ i < 2 ^ 64) (hi : i ≤ 56) : bits .or .i64 (x : Int) (IntKind.i64.wrap ((b : Int) * 2 ^ i)) = IntKind.i64.wrap ((x + b * 2 ^ i : Nat) : Int) := by
  have hp : 2 ^ i ≤ 2 ^ 56 := Nat.pow_le_pow_right (by decide) hi
  have e : (b : Int) * 2 ^ i = ((b * 2 ^ i : Nat) : Int) := by simp
  have ho : (x ||| b * 2 ^ i) = x + b * 2 ^ i := by
    rw [Nat.or_comm, Nat.mul_comm, ← Nat.two_pow_add_eq_or_of_lt hx b, Nat.add_comm]
  unfold bits
  simp only [i64_ofInt, e, BitVec.ofInt_natCast, BitVec.toNat_or, BitVec.toNat_ofNat]
  rw [Nat.mod_eq_of_lt (a := x) (by show x < 2 ^ 64; omega), Nat.mod_eq_of_lt (a := b * 2 ^ i) (b := 2 ^ IntKind.i64.bits) hb, ho]
theorem byte_mul_lt (b : UInt8) (j : Nat) (hj : j < 8) : b.toNat * 2 ^ (8 * j) < 2 ^ 64 := by
  have h2 := pow8_le j hj
  have hb := b.toNat_lt
  have : b.toNat * 2 ^ (8 * j) ≤ 255 * 2 ^ 56 := Nat.mul_le_mul (by omega) h2
  omega
theorem getD_byte (s : ByteArray) (i : Nat) (h : i < s.size) : s.data.toList.getD i 0 = s[i] := by
  have : i < s.data.toList.length := by simpa using h
  rw [List.getD, List.getElem?_eq_getElem this]; rfl
theorem getN_step (s : ByteArray) (a j : Nat) (hj : j < 8) (h : a + j < s.size) :
    bits .or .i64 (getN s a j) (wrap64 (wrap64 ((s[a + j].toNat : Nat) : Int) * 2 ^ (8 * j))) = getN s a (j + 1) := by
  have hb := s[a + j].toNat_lt
  have hw : wrap64 ((s[a + j].toNat : Nat) : Int) = ((s[a + j].toNat : Nat) : Int) := IntWalk.wrap64_in _ ⟨by omega, by omega⟩
  rw [hw, getN_small s a j hj, ← PlainAid.i64_is, or_join _ _ _ (uget_lt s a j) (byte_mul_lt _ j hj) (by omega)]
  unfold getN
  rw [uget, getD_byte s (a + j) h]

theorem uget_step (s : ByteArray) (a j : Nat) (hj : j < 8) (h : a + j < s.size) :
    bits .or .u64 ((uget s a j : Nat) : Int) (IntKind.u64.wrap (IntKind.u64.wrap ((s[a + j].toNat : Nat) : Int) * 2 ^ (8 * j))) = ((uget s a (j + 1) : Nat) : Int) := by
  have hb := s[a + j].toNat_lt
  have h1 := uget_lt s a j
  have h2 := pow8_le j hj
  have h3 := byte_mul_lt s[a + j] j hj
  have e : (((s[a + j].toNat : Nat) : Int) * 2 ^ (8 * j)) = ((s[a + j].toNat * 2 ^ (8 * j) : Nat) : Int) := by simp
  have ho : (uget s a j ||| s[a + j].toNat * 2 ^ (8 * j)) = uget s a j + s[a + j].toNat * 2 ^ (8 * j) := by
    rw [Nat.or_comm, Nat.mul_comm, ← Nat.two_pow_add_eq_or_of_lt h1 _, Nat.add_comm]
  have hs : uget s a j + s[a + j].toNat * 2 ^ (8 * j) = uget s a (j + 1) := by rw [uget, getD_byte s (a + j) h]
  have h4 := uget_lt s a (j + 1)
  have h5 : 2 ^ (8 * (j + 1)) ≤ 2 ^ 64 := Nat.pow_le_pow_right (by decide) (by omega)
  rw [show IntKind.u64.wrap ((s[a + j].toNat : Nat) : Int) = ((s[a + j].toNat : Nat) : Int) from IntWalk.u64_in _ ⟨by omega, by omega⟩, e,
    show IntKind.u64.wrap ((s[a + j].toNat * 2 ^ (8 * j) : Nat) : Int) = ((s[a + j].toNat * 2 ^ (8 * j) : Nat) : Int) from IntWalk.u64_in _ ⟨by omega, by omega⟩]
  unfold bits
  simp only [BitVec.ofInt_natCast, BitVec.toNat_or, BitVec.toNat_ofNat]
  rw [Nat.mod_eq_of_lt (a := uget s a j) (by show _ < 2 ^ 64; omega), Nat.mod_eq_of_lt (a := s[a + j].toNat * 2 ^ (8 * j)) (b := 2 ^ IntKind.u64.bits) h3, ho, hs]
  exact IntWalk.u64_in _ ⟨by omega, by omega⟩

theorem get_yes (s : ByteArray) (a k : Nat) (w : World) (hs : s.size ≤ 1099511627776) (h1 : 1 ≤ k) (h8 : k ≤ 8) (ha : a + k ≤ s.size) :
    Calls Try.prog 64 #[.string s, .int .i64 (a : Int), .int .i64 (k : Int)] w fun e w' => e = .returned (.tuple #[.int .i64 (getN s a k), .int .i64 0]) ∧ w = w' := by
  go_enter Try.func64, Try.ntmps64
  go_wp2_with (go_at_call 58; refine (validSize_yes _ _ (by omega) (by omega)).mono ?_; rintro e w' ⟨rfl, rfl⟩)
  go_loop [8, 24] (fun v i => ∃ j : Nat, j ≤ k ∧ i = .int .i64 j ∧ v = .int .i64 (getN s a j)) (fun _ i => k - (intOf i).toNat)
  case atStart => exact ⟨0, Nat.zero_le _, rfl, rfl⟩
  case round =>
    obtain ⟨j, hj, rfl, rfl⟩ := hrel
    by_cases hlt : j < k
    · have hlt2 : a + j < s.size := by omega
      have H := Lib.hid (getN_step s a j (by omega) hlt2)
      go_wp2
      go_round
      case rel => exact ⟨j + 1, by omega, by go_num, by rw [H.out]⟩
      case measure => simp [intOf]; omega
    · obtain rfl : j = k := by omega
      go_wp2
      go_ret2
      exact ⟨rfl, rfl⟩

theorem get_range (s : ByteArray) (a k : Int) (w : World) (h : k < 1 ∨ 8 < k ∨ a < 0) :
    Calls Try.prog 64 #[.string s, .int .i64 a, .int .i64 k] w fun e w' => e = .returned (.tuple #[.int .i64 0, .int .i64 1]) ∧ w = w' := by
  by_cases hv : 1 ≤ k ∧ k ≤ 8
  · have ha : a < 0 := by omega
    have hd : decide (a < 0) = true := by simpa using ha
    go_enter Try.func64, Try.ntmps64
    go_wp2_with (go_at_call 58; refine (validSize_yes _ _ (by omega) (by omega)).mono ?_; rintro e w' ⟨rfl, rfl⟩)
    go_ret2
    exact ⟨rfl, rfl⟩
  · go_enter Try.func64, Try.ntmps64
    go_wp2_with (go_at_call 58; refine (validSize_no _ _ (by omega)).mono ?_; rintro e w' ⟨rfl, rfl⟩)
    go_ret2
    exact ⟨rfl, rfl⟩
theorem get_short (s : ByteArray) (a k : Int) (w : World) (hs : s.size ≤ 1099511627776) (h1 : 1 ≤ k) (h8 : k ≤ 8) (h0 : 0 ≤ a) (h : (s.size : Int) < a + k) :
    Calls Try.prog 64 #[.string s, .int .i64 a, .int .i64 k] w fun e w' => e = .returned (.tuple #[.int .i64 0, .int .i64 5]) ∧ w = w' := by
  go_enter Try.func64, Try.ntmps64
  go_wp2_with (go_at_call 58; refine (validSize_yes _ _ (by omega) (by omega)).mono ?_; rintro e w' ⟨rfl, rfl⟩)
  go_ret2
  exact ⟨rfl, rfl⟩

theorem refGet_range (s : ByteArray) (a k : Int) (w : World) (h : k < 1 ∨ 8 < k ∨ a < 0) :
    Calls Try.prog 57 #[.string s, .int .i64 a, .int .i64 k] w fun e w' => e = .returned (.tuple #[.int .i64 0, .int .i64 1]) ∧ w = w' := by
  by_cases h1 : k < 1
  · go_enter Try.func57, Try.ntmps57
    go_wp2
    go_ret2
    exact ⟨rfl, rfl⟩
  · by_cases h8 : 8 < k
    · go_enter Try.func57, Try.ntmps57
      go_wp2
      go_ret2
      exact ⟨rfl, rfl⟩
    · have ha : a < 0 := by omega
      go_enter Try.func57, Try.ntmps57
      go_wp2
      go_ret2
      exact ⟨rfl, rfl⟩
theorem refGet_short (s : ByteArray) (a k : Int) (w : World) (_hs : s.size ≤ 1099511627776) (h1 : 1 ≤ k) (h8 : k ≤ 8) (h0 : 0 ≤ a) (h : (s.size : Int) < a + k) :
    Calls Try.prog 57 #[.string s, .int .i64 a, .int .i64 k] w fun e w' => e = .returned (.tuple #[.int .i64 0, .int .i64 5]) ∧ w = w' := by
  by_cases hg : (s.size : Int) < a
  · go_enter Try.func57, Try.ntmps57
    go_wp2
    go_ret2
    exact ⟨rfl, rfl⟩
  · go_enter Try.func57, Try.ntmps57
    go_wp2
    go_ret2
    exact ⟨rfl, rfl⟩
theorem refGet_yes (s : ByteArray) (a k : Nat) (w : World) (_ : s.size ≤ 1099511627776) (h1 : 1 ≤ k) (h8 : k ≤ 8) (ha : a + k ≤ s.size) :
    Calls Try.prog 57 #[.string s, .int .i64 (a : Int), .int .i64 (k : Int)] w fun e w' => e = .returned (.tuple #[.int .i64 (getN s a k), .int .i64 0]) ∧ w = w' := by
  have hd1 : decide ((k : Int) < 1) = false := by simp; omega
  have hd2 : decide (8 < (k : Int)) = false := by simp; omega
  have hd3 : decide ((a : Int) < 0) = false := by simp
  have hd4 : decide (s.size < a) = false := by simp; omega
  have hd5 : decide ((s.size : Int) - a < k) = false := by simp; omega
  go_enter Try.func57, Try.ntmps57
  go_wp2
  go_loop [8, 9] (fun v i => ∃ j : Nat, j ≤ k ∧ i = .int .i64 j ∧ v = .int .u64 (uget s a j : Nat)) (fun _ i => k - (intOf i).toNat)
  case atStart => exact ⟨0, Nat.zero_le _, rfl, rfl⟩
  case round =>
    obtain ⟨j, hj, rfl, rfl⟩ := hrel
    by_cases hlt : j < k
    · have hlt2 : a + j < s.size := by omega
      have H := Lib.hid (uget_step s a j (by omega) hlt2)
      go_wp2
      go_round
      case rel => exact ⟨j + 1, by omega, by go_num, by rw [H.out]⟩
      case measure => simp [intOf]; omega
    · obtain rfl : j = k := by omega
      have H : Hid (wrap64 ((uget s a j : Nat) : Int) = getN s a j) := by unfold getN; rw [← PlainAid.i64_is]; rfl
      go_wp2
      go_ret2
      exact ⟨by rw [← H.out]; rfl, rfl⟩
end Go.Proofs.Ytiojpfljnbdonaa.cg
