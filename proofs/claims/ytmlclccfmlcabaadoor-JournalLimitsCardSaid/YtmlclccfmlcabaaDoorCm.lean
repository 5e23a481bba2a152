/- The plain mathematics of layer 1: the remainder of a half byte is that of four bits, the register of CRC-32C is linear and one to one. -/
import Derived.Laws.BitsLemmas
import Derived.Lib.EndianBits
namespace Go.Proofs.YtmlclccfmlcabaaDoor.cm

def poly : Nat := 2197175160
def bstep (c : Nat) : Nat := if c % 2 = 1 then (c / 2) ^^^ poly else c / 2
def bsteps : Nat → Nat → Nat
  | 0, c => c
  | k + 1, c => bsteps k (bstep c)
def tab : List Nat := [0, 274646895, 549293790, 820201905, 1098587580, 1361435347, 1640403810, 1905808397, 2197175160, 2460548119, 2722870694, 2987750089, 3280807620, 3553878443, 3811616794, 4084100981]
def half (c : Nat) : Nat := (c / 16) ^^^ tab.getD (c % 16) 0
def bytestep (c b : Nat) : Nat := bsteps 8 (c ^^^ b)
def crcFrom (c : Nat) (l : List UInt8) : Nat := l.foldl (fun c b => bytestep c b.toNat) c
def crc (l : List UInt8) : Nat := crcFrom 4294967295 l ^^^ 4294967295
def pack : List UInt8 → Nat
  | [] => 0
  | b :: r => b.toNat + 256 * pack r

theorem xor_cancel (a b p : Nat) : (a ^^^ p) ^^^ (b ^^^ p) = a ^^^ b := by
  apply Nat.eq_of_testBit_eq; intro i; simp only [Nat.testBit_xor]
  cases a.testBit i <;> cases b.testBit i <;> cases p.testBit i <;> rfl
theorem xor_mid (a b p : Nat) : (a ^^^ b) ^^^ p = (a ^^^ p) ^^^ b := by
  apply Nat.eq_of_testBit_eq; intro i; simp only [Nat.testBit_xor]
  cases a.testBit i <;> cases b.testBit i <;> cases p.testBit i <;> rfl
theorem xor_left_inj {c a b : Nat} (h : c ^^^ a = c ^^^ b) : a = b := by
  apply Nat.eq_of_testBit_eq; intro i
  have := congrArg (fun n => n.testBit i) h
  simp only [Nat.testBit_xor] at this
  revert this
  cases a.testBit i <;> cases b.testBit i <;> cases c.testBit i <;> decide
theorem eq_of_xor_zero {a b : Nat} (h : a ^^^ b = 0) : a = b := by
  have : a ^^^ b = a ^^^ a := by rw [h, Nat.xor_self]
  exact (xor_left_inj this).symm

theorem bstep_even (x : Nat) : bstep (2 * x) = x := by
  unfold bstep
  rw [if_neg (by omega)]
  omega
theorem bstep_bit (x b : Nat) (hb : b < 2) : bstep (2 * x + b) = x ^^^ (b * poly) := by
  unfold bstep
  rw [show (2 * x + b) / 2 = x from by omega]
  by_cases h : b = 1
  · subst h; rw [if_pos (by omega), Nat.one_mul]
  · obtain rfl : b = 0 := by omega
    rw [if_neg (by omega), Nat.zero_mul, Nat.xor_zero]
theorem bstep_xor (a b : Nat) : bstep (a ^^^ b) = bstep a ^^^ bstep b := by
  have h := @Nat.xor_mod_two_eq_one a b
  unfold bstep
  rw [Nat.xor_div_two]
  by_cases ha : a % 2 = 1
  · by_cases hb : b % 2 = 1
    · rw [if_neg (fun e => h.1 e ⟨fun _ => hb, fun _ => ha⟩), if_pos ha, if_pos hb, xor_cancel]
    · rw [if_pos (h.2 (fun e => hb (e.1 ha))), if_pos ha, if_neg hb, xor_mid]
  · by_cases hb : b % 2 = 1
    · rw [if_pos (h.2 (fun e => ha (e.2 hb))), if_neg ha, if_pos hb, Nat.xor_assoc]
    · rw [if_neg (fun e => h.1 e ⟨fun x => absurd x ha, fun x => absurd x hb⟩), if_neg ha, if_neg hb]
theorem bstep_lt {c : Nat} (h : c < 4294967296) : bstep c < 4294967296 := by
  unfold bstep
  split
  · exact Nat.xor_lt_two_pow (n := 32) (by omega) (by decide)
  · omega
theorem bstep_zero {c : Nat} (h : c < 4294967296) (e : bstep c = 0) : c = 0 := by
  unfold bstep at e
  split at e
  · have := eq_of_xor_zero e
    unfold poly at this
    omega
  · omega
theorem bstep_inj {a b : Nat} (ha : a < 4294967296) (hb : b < 4294967296) (e : bstep a = bstep b) : a = b := by
  apply eq_of_xor_zero
  apply bstep_zero (Nat.xor_lt_two_pow (n := 32) ha hb)
  rw [bstep_xor, e, Nat.xor_self]

theorem bsteps_xor (k : Nat) : ∀ a b : Nat, bsteps k (a ^^^ b) = bsteps k a ^^^ bsteps k b := by
  induction k with
  | zero => intro a b; rfl
  | succ k ih => intro a b; simp only [bsteps]; rw [bstep_xor, ih]
theorem bsteps_lt (k : Nat) : ∀ {c : Nat}, c < 4294967296 → bsteps k c < 4294967296 := by
  induction k with
  | zero => intro c h; exact h
  | succ k ih => intro c h; exact ih (bstep_lt h)
theorem bsteps_inj (k : Nat) : ∀ {a b : Nat}, a < 4294967296 → b < 4294967296 → bsteps k a = bsteps k b → a = b := by
  induction k with
  | zero => intro a b _ _ h; exact h
  | succ k ih => intro a b ha hb h; exact bstep_inj ha hb (ih (bstep_lt ha) (bstep_lt hb) h)
theorem bsteps_add (j : Nat) : ∀ (k c : Nat), bsteps (j + k) c = bsteps k (bsteps j c) := by
  induction j with
  | zero => intro k c; rw [Nat.zero_add]; rfl
  | succ j ih => intro k c; rw [show j + 1 + k = (j + k) + 1 from by omega]; exact ih k _
theorem bsteps_256 (x : Nat) : bsteps 8 (256 * x) = x := by
  simp only [bsteps]
  rw [show 256 * x = 2 * (2 * (2 * (2 * (2 * (2 * (2 * (2 * x))))))) from by omega]
  simp only [bstep_even]

theorem tabs : ∀ b3 b2 b1 b0 : Fin 2, (b3.val * poly) ^^^ bstep (b2.val * poly) ^^^ bstep (bstep (b1.val * poly)) ^^^ bstep (bstep (bstep (b0.val * poly))) = tab.getD (8 * b3.val + 4 * b2.val + 2 * b1.val + b0.val) 0 := by decide +kernel
theorem half_bsteps (c : Nat) : half c = bsteps 4 c := by
  have t := tabs ⟨c / 8 % 2, by omega⟩ ⟨c / 4 % 2, by omega⟩ ⟨c / 2 % 2, by omega⟩ ⟨c % 2, by omega⟩
  simp only at t
  rw [show 8 * (c / 8 % 2) + 4 * (c / 4 % 2) + 2 * (c / 2 % 2) + c % 2 = c % 16 from by omega] at t
  have e : c = 2 * (2 * (2 * (2 * (c / 16) + c / 8 % 2) + c / 4 % 2) + c / 2 % 2) + c % 2 := by omega
  have g : bsteps 4 (2 * (2 * (2 * (2 * (c / 16) + c / 8 % 2) + c / 4 % 2) + c / 2 % 2) + c % 2) = (c / 16) ^^^ ((c / 8 % 2) * poly ^^^ bstep ((c / 4 % 2) * poly) ^^^ bstep (bstep ((c / 2 % 2) * poly)) ^^^ bstep (bstep (bstep ((c % 2) * poly)))) := by
    have e0 := bstep_bit (2 * (2 * (2 * (c / 16) + c / 8 % 2) + c / 4 % 2) + c / 2 % 2) (c % 2) (by omega)
    have e1 := bstep_bit (2 * (2 * (c / 16) + c / 8 % 2) + c / 4 % 2) (c / 2 % 2) (by omega)
    have e2 := bstep_bit (2 * (c / 16) + c / 8 % 2) (c / 4 % 2) (by omega)
    have e3 := bstep_bit (c / 16) (c / 8 % 2) (by omega)
    simp only [bsteps, bstep_xor, e0, e1, e2, e3]
    ac_rfl
  rw [← e] at g
  rw [g, t]
  rfl
theorem bytestep_half (c b : Nat) : half (half (c ^^^ b)) = bytestep c b := by
  unfold bytestep
  rw [half_bsteps, half_bsteps, ← bsteps_add]
theorem half_lt {c : Nat} (h : c < 4294967296) : half c < 4294967296 := by rw [half_bsteps]; exact bsteps_lt 4 h
theorem byte_lt (b : UInt8) : b.toNat < 4294967296 := by have := b.toNat_lt; omega
theorem bytestep_lt {c : Nat} (h : c < 4294967296) (b : UInt8) : bytestep c b.toNat < 4294967296 :=
  bsteps_lt 8 (Nat.xor_lt_two_pow (n := 32) h (byte_lt b))
theorem crcFrom_lt (l : List UInt8) : ∀ {c : Nat}, c < 4294967296 → crcFrom c l < 4294967296 := by
  induction l with
  | nil => intro c h; exact h
  | cons b r ih => intro c h; exact ih (bytestep_lt h b)
theorem crc_lt (l : List UInt8) : crc l < 4294967296 := Nat.xor_lt_two_pow (n := 32) (crcFrom_lt l (by decide)) (by decide)
theorem crcFrom_snoc (c : Nat) (l : List UInt8) (b : UInt8) : crcFrom c (l ++ [b]) = bytestep (crcFrom c l) b.toNat := by
  unfold crcFrom; rw [List.foldl_append]; rfl
theorem crcFrom_append (c : Nat) (l r : List UInt8) : crcFrom c (l ++ r) = crcFrom (crcFrom c l) r := by
  unfold crcFrom; rw [List.foldl_append]

theorem xor_256 (b : UInt8) (p : Nat) : b.toNat + 256 * p = b.toNat ^^^ (256 * p) := by
  apply Nat.eq_of_testBit_eq; intro i
  rw [Nat.testBit_xor, Nat.add_comm, show 256 * p + b.toNat = 2 ^ 8 * p + b.toNat from rfl, Nat.testBit_two_pow_mul_add _ (by have := b.toNat_lt; omega), show 256 * p = 2 ^ 8 * p from rfl, Nat.testBit_two_pow_mul]
  by_cases h : i < 8
  · rw [if_pos h, decide_eq_false (by omega), Bool.false_and, Bool.xor_false]
  · rw [if_neg h, Nat.testBit_lt_two_pow (x := b.toNat) (by have := b.toNat_lt; exact Nat.lt_of_lt_of_le this (Nat.pow_le_pow_right (by decide) (by omega)))]
    rw [decide_eq_true (by omega), Bool.true_and, Bool.false_xor]
theorem crcFrom_pack (l : List UInt8) : ∀ c : Nat, crcFrom c l = bsteps (8 * l.length) (c ^^^ pack l) := by
  induction l with
  | nil => intro c; simp [crcFrom, pack, bsteps]
  | cons b r ih =>
    intro c
    have e : crcFrom c (b :: r) = crcFrom (bytestep c b.toNat) r := rfl
    rw [e, ih, List.length_cons, show 8 * (r.length + 1) = 8 + 8 * r.length from by omega, bsteps_add, pack, xor_256, ← Nat.xor_assoc, bsteps_xor 8, bsteps_256]
    rfl
theorem pack_lt (l : List UInt8) : pack l < 256 ^ l.length := by
  induction l with
  | nil => decide
  | cons b r ih => have := b.toNat_lt; rw [pack, List.length_cons, Nat.pow_succ]; omega
theorem pack_inj : ∀ {x y : List UInt8}, x.length = y.length → pack x = pack y → x = y
  | [], [], _, _ => rfl
  | a :: x, b :: y, hl, h => by
    have ha := a.toNat_lt
    have hb := b.toNat_lt
    simp only [pack] at h
    have h1 : a.toNat = b.toNat := by omega
    have h2 : pack x = pack y := by omega
    rw [pack_inj (by simpa using hl) h2, UInt8.toNat_inj.1 h1]
theorem crcFrom_inj (l : List UInt8) : ∀ {c d : Nat}, c < 4294967296 → d < 4294967296 → crcFrom c l = crcFrom d l → c = d := by
  induction l with
  | nil => intro c d _ _ h; exact h
  | cons b r ih =>
    intro c d hc hd h
    have h1 := ih (bytestep_lt hc b) (bytestep_lt hd b) h
    have h2 := bsteps_inj 8 (Nat.xor_lt_two_pow (n := 32) hc (byte_lt b)) (Nat.xor_lt_two_pow (n := 32) hd (byte_lt b)) h1
    rw [Nat.xor_comm c, Nat.xor_comm d] at h2
    exact xor_left_inj h2
/-- A burst of at most four bytes is noticed. -/
theorem crc_burst (p q : List UInt8) {x y : List UInt8} (hl : x.length = y.length) (h4 : x.length ≤ 4) (h : crc (p ++ x ++ q) = crc (p ++ y ++ q)) : x = y := by
  unfold crc at h
  rw [Nat.xor_comm, Nat.xor_comm (crcFrom _ _)] at h
  have h := xor_left_inj h
  rw [crcFrom_append, crcFrom_append, crcFrom_append, crcFrom_append] at h
  have hp : crcFrom 4294967295 p < 4294967296 := crcFrom_lt p (by decide)
  have h := crcFrom_inj q (crcFrom_lt x hp) (crcFrom_lt y hp) h
  rw [crcFrom_pack x, crcFrom_pack y, ← hl] at h
  have small : ∀ l : List UInt8, l.length ≤ 4 → pack l < 2 ^ 32 := fun l hl => Nat.lt_of_lt_of_le (pack_lt l) (by
    have := Nat.pow_le_pow_right (n := 256) (by decide) hl
    exact this)
  have h := bsteps_inj _ (Nat.xor_lt_two_pow (n := 32) hp (small x h4)) (Nat.xor_lt_two_pow (n := 32) hp (small y (by omega))) h
  exact pack_inj hl (xor_left_inj h)
theorem crc_check : crc [49, 50, 51, 52, 53, 54, 55, 56, 57] = 3808858755 := by decide +kernel

/-- What the walk calls 'bits .xor' of two uint32 is their exclusive or. -/
theorem bits_xor (a b : Nat) (ha : a < 4294967296) (hb : b < 4294967296) : bits .xor .u32 (a : Int) (b : Int) = ((a ^^^ b : Nat) : Int) := by
  have ha' : a % 2 ^ IntKind.u32.bits = a := Nat.mod_eq_of_lt ha
  have hb' : b % 2 ^ IntKind.u32.bits = b := Nat.mod_eq_of_lt hb
  have hx : a ^^^ b < 2 ^ 32 := Nat.xor_lt_two_pow ha hb
  simp only [bits, BitVec.ofInt_natCast, BitVec.toNat_xor, BitVec.toNat_ofNat, ha', hb']
  rw [IntKind.wrap_u32]
  omega
theorem bits_and15 (a : Nat) (ha : a < 4294967296) : bits .and .u32 (a : Int) 15 = ((a % 16 : Nat) : Int) := by
  have := bits_mask .u32 32 (by decide) wraps_u32 4 (by decide) (a : Int) (by omega) (by omega)
  rw [show ((2 : Int) ^ 4 - 1) = 15 from rfl] at this
  rw [this]; omega
theorem bits_and1 (a : Nat) (ha : a < 4294967296) : bits .and .u32 (a : Int) 1 = ((a % 2 : Nat) : Int) := by
  have := bits_mask .u32 32 (by decide) wraps_u32 1 (by decide) (a : Int) (by omega) (by omega)
  rw [show ((2 : Int) ^ 1 - 1) = 1 from rfl] at this
  rw [this]; omega
end Go.Proofs.YtmlclccfmlcabaaDoor.cm
