/- CodecSum: four neighbouring bytes that differ are noticed. -/
import Derived.Test.YtpfcnppaancmfaaDoorCd
import Derived.Test.YtpfcnppaancmfaaDoorCn
import Derived.Test.YtpfcnppaancmfaaDoorCe
import Derived.Lib.ConvBytes
import Derived.Lib.SmallJoins
import Derived.RegionTactic
namespace Go.Proofs.YtpfcnppaancmfaaDoor.cq
open Go.ChangeShapes Go.WideShapes Go.ChangeAt Go.RowKit Go.Proofs.YtpfcnppaancmfaaDoor.cm Go.Proofs.YtpfcnppaancmfaaDoor.cw Go.Proofs.YtpfcnppaancmfaaDoor.cp Go.Proofs.YtpfcnppaancmfaaDoor.cg Go.Proofs.YtpfcnppaancmfaaDoor.ca Go.Proofs.YtpfcnppaancmfaaDoor.cu Go.Proofs.YtpfcnppaancmfaaDoor.cd Go.Proofs.YtpfcnppaancmfaaDoor.cn

/-- Two texts of one length that differ at most at four neighbours from a on, and have one checksum, are equal. -/
theorem burst_list (l m : List UInt8) (a : Nat) (hl : l.length = m.length) (hs : ∀ i, i < a ∨ a + 4 ≤ i → l[i]? = m[i]?) (h : crc l = crc m) : l = m := by
  have e1 : ∀ x : List UInt8, x = x.take a ++ (x.drop a).take 4 ++ x.drop (a + 4) := fun x => by
    rw [List.append_assoc, ← List.drop_drop, List.take_append_drop, List.take_append_drop]
  have ht : m.take a = l.take a := by
    apply List.ext_getElem?
    intro i
    rw [List.getElem?_take, List.getElem?_take]
    split
    · exact (hs i (Or.inl ‹_›)).symm
    · rfl
  have hd : m.drop (a + 4) = l.drop (a + 4) := by
    apply List.ext_getElem?
    intro i
    rw [List.getElem?_drop, List.getElem?_drop]
    exact (hs _ (Or.inr (by omega))).symm
  have h' : crc (l.take a ++ (l.drop a).take 4 ++ l.drop (a + 4)) = crc (l.take a ++ (m.drop a).take 4 ++ l.drop (a + 4)) := by
    rw [← e1 l, h]
    congr 1
    rw [← ht, ← hd]
    exact e1 m
  have := crc_burst _ _ (by simp [hl]) (by simp; omega) h'
  rw [e1 l, e1 m, ht, hd, this]

/-- Byte q behind j rounds: those of the window from a on, as far as they have come, changed by b. -/
def curAt (s : ByteArray) (b : Nat → Int) (a j q : Nat) : Int := if a ≤ q ∧ q < a + j then bits .xor .u8 ((s.data.toList.getD q 0).toNat : Int) (b (q - a)) else ((s.data.toList.getD q 0).toNat : Int)
def chg (n : Nat) (b : Nat → Int) (a : Nat) : Nat → Bool
  | 0 => false
  | j + 1 => chg n b a j || (decide (a + j < n) && (b j != 0))
def curS (s : ByteArray) (b : Nat → Int) (a : Nat) : ByteArray := strOfNums ((List.range s.size).map (curAt s b a 4))

theorem chg_false {n : Nat} {b : Nat → Int} {a : Nat} : ∀ j : Nat, chg n b a j = false ↔ ∀ i, i < j → a + i < n → b i = 0
  | 0 => by simp [chg]
  | j + 1 => by
    rw [chg, Bool.or_eq_false_iff, chg_false j]
    constructor
    · rintro ⟨h1, h2⟩ i hi hn
      by_cases e : i = j
      · subst e
        simpa [hn] using h2
      · exact h1 i (by omega) hn
    · intro h
      refine ⟨fun i hi hn => h i (by omega) hn, ?_⟩
      by_cases hn : a + j < n
      · simp [hn, h j (by omega) hn]
      · simp [hn]
theorem byte_of (l : List UInt8) (q : Nat) : 0 ≤ ((l.getD q 0).toNat : Int) ∧ ((l.getD q 0).toNat : Int) < 256 := by
  have := (l.getD q 0).toNat_lt
  omega
theorem curS_get (s : ByteArray) (b : Nat → Int) (a q : Nat) (hq : q < s.size) : (curS s b a).data.toList[q]? = some (UInt8.ofNat (curAt s b a 4 q).toNat) := by
  unfold curS
  rw [strOfNums_data]
  simp [hq]
theorem get_of (s : ByteArray) (q : Nat) (hq : q < s.size) : s.data.toList[q]? = some (s.data.toList.getD q 0) := by
  have : q < s.data.toList.length := by simpa using hq
  rw [List.getD, List.getElem?_eq_getElem this]; rfl
theorem curS_len (s : ByteArray) (b : Nat → Int) (a : Nat) : (curS s b a).data.toList.length = s.data.toList.length := by
  unfold curS
  rw [strOfNums_data]; simp
theorem curAt_out (s : ByteArray) (b : Nat → Int) (a q : Nat) (h : q < a ∨ a + 4 ≤ q) : curAt s b a 4 q = ((s.data.toList.getD q 0).toNat : Int) := by
  unfold curAt
  rw [if_neg (by omega)]
theorem of_toNat (u : UInt8) : UInt8.ofNat ((u.toNat : Int)).toNat = u := by
  rw [Int.toNat_natCast]; exact UInt8.ofNat_toNat
theorem sum_same (s : ByteArray) (b : Nat → Int) (a : Nat) (hb : ∀ j, 0 ≤ b j ∧ b j ≤ 255) : (crcN (curS s b a) = crcN s) ↔ chg s.size b a 4 = false := by
  have step : ∀ q, q < s.size → (UInt8.ofNat (curAt s b a 4 q).toNat = s.data.toList.getD q 0 ↔ (a ≤ q ∧ q < a + 4 → b (q - a) = 0)) := by
    intro q _
    by_cases hw : a ≤ q ∧ q < a + 4
    · obtain ⟨c, hc⟩ := Int.eq_ofNat_of_zero_le (hb (q - a)).1
      have hc2 := (hb (q - a)).2
      have hu := (s.data.toList.getD q 0).toNat_lt
      have hx : (s.data.toList.getD q 0).toNat ^^^ c < 2 ^ 8 := Nat.xor_lt_two_pow hu (by omega)
      unfold curAt
      rw [if_pos hw, hc, ce.bits_xor8 _ c (by omega) (by omega), Int.toNat_natCast]
      constructor
      · intro e _
        have := congrArg UInt8.toNat e
        rw [UInt8.toNat_ofNat_of_lt' hx] at this
        by_cases h0 : c = 0
        · omega
        · exact absurd this (ce.xor_ne _ c h0)
      · intro e
        have h0 : c = 0 := by have := e hw; omega
        subst h0
        rw [Nat.xor_zero]
        exact UInt8.ofNat_toNat
    · rw [curAt_out s b a q (by omega), of_toNat]
      exact ⟨fun _ h => absurd h hw, fun _ => rfl⟩
  rw [chg_false]
  constructor
  · intro h i hi hn
    have e : (curS s b a).data.toList = s.data.toList := by
      refine burst_list _ _ a (curS_len s b a) (fun q hq => ?_) h
      by_cases hqs : q < s.size
      · rw [curS_get s b a q hqs, get_of s q hqs, curAt_out s b a q hq, of_toNat]
      · rw [List.getElem?_eq_none (by rw [curS_len]; simp; omega), List.getElem?_eq_none (by simp; omega)]
    have := congrArg (·[a + i]?) e
    simp only [curS_get s b a _ hn, get_of s _ hn, Option.some.injEq] at this
    have := (step (a + i) hn).1 this ⟨by omega, by omega⟩
    rwa [Nat.add_sub_cancel_left] at this
  · intro h
    have e : (curS s b a).data.toList = s.data.toList := by
      apply List.ext_getElem?
      intro q
      by_cases hqs : q < s.size
      · rw [curS_get s b a q hqs, get_of s q hqs, (step q hqs).2 fun hw => h (q - a) (by omega) (by omega)]
      · rw [List.getElem?_eq_none (by rw [curS_len]; simp; omega), List.getElem?_eq_none (by simp; omega)]
    unfold crcN
    rw [e]
end Go.Proofs.YtpfcnppaancmfaaDoor.cq
