/- What Get of layer 1 returns, that of the program and that of the reference. -/
import Derived.Test.YtmlclccfmlcabaaDoorCp
namespace Go.Proofs.YtmlclccfmlcabaaDoor.cg
open Go.ChangeShapes Go.WideShapes Go.ChangeAt Go.RowKit Go.Proofs.YtmlclccfmlcabaaDoor.cm Go.Proofs.YtmlclccfmlcabaaDoor.cw Go.Proofs.YtmlclccfmlcabaaDoor.cp

/-- The unsigned number in k bytes from the index a on. -/
def uget (s : ByteArray) (a : Nat) : Nat → Nat
  | 0 => 0
  | k + 1 => uget s a k + (s.data.toList.getD (a + k) 0).toNat * 2 ^ (8 * k)
def getN (s : ByteArray) (a k : Nat) : Int := IntKind.i64.wrap (uget s a k : Nat)

theorem uget_lt (s : ByteArray) (a : Nat) : ∀ k : Nat, uget s a k < 2 ^ (8 * k)
  | 0 => by simp [uget]
  | k + 1 => by
    have ih := uget_lt s a k
    have hb := (s.data.toList.getD (a + k) 0).toNat_lt
    rw [uget, show 8 * (k + 1) = 8 * k + 8 from by omega, Nat.pow_add]
    generalize (s.data.toList.getD (a + k) 0).toNat = b at hb
    have : b * 2 ^ (8 * k) ≤ 255 * 2 ^ (8 * k) := Nat.mul_le_mul_right _ (by omega)
    omega
theorem pow8_le (j : Nat) (hj : j < 8) : 2 ^ (8 * j) ≤ 2 ^ 56 := Nat.pow_le_pow_right (by decide) (by omega)
theorem getN_small (s : ByteArray) (a j : Nat) (hj : j < 8) : getN s a j = (uget s a j : Nat) := by
  have h1 := uget_lt s a j
  have h2 := pow8_le j hj
  unfold getN
  rw [IntKind.wrap_i64]
  omega
theorem i64_ofInt (z : Int) : BitVec.ofInt IntKind.i64.bits (IntKind.i64.wrap z) = BitVec.ofInt IntKind.i64.bits z := by
  apply BitVec.eq_of_toNat_eq
  rw [BitVec.toNat_ofInt, BitVec.toNat_ofInt, IntKind.wrap_i64]
  simp only [show IntKind.i64.bits = 64 from rfl]
  omega
theorem or_join (x b i : Nat) (hx : x < 2 ^ i) (hb : b * 2 ^ i < 2 ^ 64) (hi : i ≤ 56) : bits .or .i64 (x : Int) (IntKind.i64.wrap ((b : Int) * 2 ^ i)) = IntKind.i64.wrap ((x + b * 2 ^ i : Nat) : Int) := by
  have hp : 2 ^ i ≤ 2 ^ 56 := Nat.pow_le_pow_right (by decide) hi
  have e : (b : Int) * 2 ^ i = ((b * 2 ^ i : Nat) : Int) := by simp
  have ho : (x ||| b * 2 ^ i) = x + b * 2 ^ i := by
    rw [Nat.or_comm, Nat.mul_comm, ← Nat.two_pow_add_eq_or_of_lt hx b, Nat.add_comm]
  unfold bits
  simp only [i64_ofInt, e, BitVec.ofInt_natCast, BitVec.toNat_or, BitVec.toNat_ofNat]
  rw [Nat.mod_eq_of_lt (a := x) (by show x < 2 ^ 64; omega), Nat.mod_eq_of_lt (a := b * 2 ^ i) (b := 2 ^ IntKind.i64.bits) hb, ho]
theorem byte_mul_lt (b : UInt8) (j : Nat) (hj : j < 8) : b.toNat * 2 ^ (8 * j) < 2 ^ 64 := by
  have h2 := pow8_le j hj
  have hb := b.toNat_lt
  have : b.toNat * 2 ^ (8 * j) ≤ 255 * 2 ^ 56 := Nat.mul_le_mul (by omega) h2
  omega
theorem getD_byte (s : ByteArray) (i : Nat) (h : i < s.size) : s.data.toList.getD i 0 = s[i] := by
  have : i < s.data.toList.length := by simpa using h
  rw [List.getD, List.getElem?_eq_getElem this]; rfl
theorem getN_step (s : ByteArray) (a j : Nat) (hj : j < 8) (h : a + j < s.size) :
    bits .or .i64 (getN s a j) (wrap64 (wrap64 ((s[a + j].toNat : Nat) : Int) * 2 ^ (8 * j))) = getN s a (j + 1) := by
  have hb := s[a + j].toNat_lt
  have hw : wrap64 ((s[a + j].toNat : Nat) : Int) = ((s[a + j].toNat : Nat) : Int) := IntWalk.wrap64_in _ ⟨by omega, by omega⟩
  rw [hw, getN_small s a j hj, ← PlainAid.i64_is, or_join _ _ _ (uget_lt s a j) (byte_mul_lt _ j hj) (by omega)]
  unfold getN
  rw [uget, getD_byte s (a + j) h]

theorem uget_step (s : ByteArray) (a j : Nat) (hj : j < 8) (h : a + j < s.size) :
    bits .or .u64 ((uget s a j : Nat) : Int) (IntKind.u64.wrap (IntKind.u64.wrap ((s[a + j].toNat : Nat) : Int) * 2 ^ (8 * j))) = ((uget s a (j + 1) : Nat) : Int) := by
  have hb := s[a + j].toNat_lt
  have h1 := uget_lt s a j
  have h2 := pow8_le j hj
  have h3 := byte_mul_lt s[a + j] j hj
  have e : (((s[a + j].toNat : Nat) : Int) * 2 ^ (8 * j)) = ((s[a + j].toNat * 2 ^ (8 * j) : Nat) : Int) := by simp
  have ho : (uget s a j ||| s[a + j].toNat * 2 ^ (8 * j)) = uget s a j + s[a + j].toNat * 2 ^ (8 * j) := by
    rw [Nat.or_comm, Nat.mul_comm, ← Nat.two_pow_add_eq_or_of_lt h1 _, Nat.add_comm]
  have hs : uget s a j + s[a + j].toNat * 2 ^ (8 * j) = uget s a (j + 1) := by rw [uget, getD_byte s (a + j) h]
  have h4 := uget_lt s a (j + 1)
  have h5 : 2 ^ (8 * (j + 1)) ≤ 2 ^ 64 := Nat.pow_le_pow_right (by decide) (by omega)
  rw [show IntKind.u64.wrap ((s[a + j].toNat : Nat) : Int) = ((s[a + j].toNat : Nat) : Int) from IntWalk.u64_in _ ⟨by omega, by omega⟩, e,
    show IntKind.u64.wrap ((s[a + j].toNat * 2 ^ (8 * j) : Nat) : Int) = ((s[a + j].toNat * 2 ^ (8 * j) : Nat) : Int) from IntWalk.u64_in _ ⟨by omega, by omega⟩]
  unfold bits
  simp only [BitVec.ofInt_natCast, BitVec.toNat_or, BitVec.toNat_ofNat]
  rw [Nat.mod_eq_of_lt (a := uget s a j) (by show _ < 2 ^ 64; omega), Nat.mod_eq_of_lt (a := s[a + j].toNat * 2 ^ (8 * j)) (b := 2 ^ IntKind.u64.bits) h3, ho, hs]
  exact IntWalk.u64_in _ ⟨by omega, by omega⟩

end Go.Proofs.YtmlclccfmlcabaaDoor.cg
