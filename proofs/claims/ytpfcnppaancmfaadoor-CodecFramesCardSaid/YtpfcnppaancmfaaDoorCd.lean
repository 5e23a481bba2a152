/- CodecDamage, CodecSum: the plain mathematics of a frame in which one byte is changed, and of a text in which four neighbours are. -/
import Derived.Test.YtpfcnppaancmfaaDoorCu
import Derived.Test.YtpfcnppaancmfaaDoorCk
namespace Go.Proofs.YtpfcnppaancmfaaDoor.cd
open Go.ChangeShapes Go.WideShapes Go.ChangeAt Go.RowKit Go.Proofs.YtpfcnppaancmfaaDoor.cm Go.Proofs.YtpfcnppaancmfaaDoor.cw Go.Proofs.YtpfcnppaancmfaaDoor.cp Go.Proofs.YtpfcnppaancmfaaDoor.cg Go.Proofs.YtpfcnppaancmfaaDoor.ca Go.Proofs.YtpfcnppaancmfaaDoor.cu Go.Proofs.YtpfcnppaancmfaaDoor.ck

theorem uget_congr {s t : ByteArray} (a : Nat) : ∀ k : Nat, (∀ i, i < k → s.data.toList.getD (a + i) 0 = t.data.toList.getD (a + i) 0) → uget s a k = uget t a k
  | 0, _ => rfl
  | k + 1, h => by rw [uget, uget, uget_congr a k (fun i hi => h i (by omega)), h k (by omega)]
theorem uget_inj {s t : ByteArray} (a : Nat) : ∀ k : Nat, uget s a k = uget t a k → ∀ i, i < k → s.data.toList.getD (a + i) 0 = t.data.toList.getD (a + i) 0
  | 0, _, i, hi => by omega
  | k + 1, h, i, hi => by
    have h1 := uget_lt s a k
    have h2 := uget_lt t a k
    rw [uget, uget] at h
    have hp : 0 < 2 ^ (8 * k) := Nat.two_pow_pos _
    have d1 : (uget s a k + (s.data.toList.getD (a + k) 0).toNat * 2 ^ (8 * k)) / 2 ^ (8 * k) = (s.data.toList.getD (a + k) 0).toNat := by
      rw [Nat.add_mul_div_right _ _ hp, Nat.div_eq_of_lt h1, Nat.zero_add]
    have d2 : (uget t a k + (t.data.toList.getD (a + k) 0).toNat * 2 ^ (8 * k)) / 2 ^ (8 * k) = (t.data.toList.getD (a + k) 0).toNat := by
      rw [Nat.add_mul_div_right _ _ hp, Nat.div_eq_of_lt h2, Nat.zero_add]
    have e : (s.data.toList.getD (a + k) 0).toNat = (t.data.toList.getD (a + k) 0).toNat := by rw [← d1, ← d2, h]
    have h' : uget s a k = uget t a k := by rw [e] at h; omega
    by_cases hk : i = k
    · subst hk; exact UInt8.toNat_inj.1 e
    · exact uget_inj a k h' i (by omega)

theorem frame_size (p : ByteArray) : (frameS p).size = p.size + 8 := by
  unfold frameS
  rw [putS_size, lenS_size]; omega
theorem frame_len (p : ByteArray) (h : p.size ≤ 8392) : uget (frameS p) 0 4 = p.size := by
  have e : frameS p = putS ⟨#[]⟩ (p.size : Int) 4 ++ (p ++ strOfNums (putN (crcN (lenS p) : Nat) 4)) := by
    unfold frameS putS lenS
    apply ByteArray.ext
    simp [ByteArray.data_append, putS]
  have := uget_put ⟨#[]⟩ (p ++ strOfNums (putN (crcN (lenS p) : Nat) 4)) (p.size : Int) 4 (by decide) 4 (by decide)
  rw [← e] at this
  have z : (⟨#[]⟩ : ByteArray).size = 0 := rfl
  rw [z] at this
  have : ((uget (frameS p) 0 4 : Nat) : Int) = (p.size : Int) % 4294967296 := this
  omega
theorem frame_crc (p : ByteArray) : uget (frameS p) (4 + p.size) 4 = crcN (lenS p) := by
  have hc := crcN_lt (lenS p)
  have := uget_put (lenS p) ⟨#[]⟩ (crcN (lenS p) : Nat) 4 (by decide) 4 (by decide)
  have z : putS (lenS p) (crcN (lenS p) : Nat) 4 ++ (⟨#[]⟩ : ByteArray) = frameS p := by
    apply ByteArray.ext
    simp [frameS, ByteArray.data_append]
  rw [z, lenS_size] at this
  have : ((uget (frameS p) (4 + p.size) 4 : Nat) : Int) = (crcN (lenS p) : Int) % 4294967296 := this
  omega
theorem frame_list (p : ByteArray) : (frameS p).data.toList = (lenS p).data.toList ++ (strOfNums (putN (crcN (lenS p) : Nat) 4)).data.toList := by
  simp [frameS, putS, ByteArray.data_append]
theorem lenS_list_len (p : ByteArray) : (lenS p).data.toList.length = 4 + p.size := by
  rw [← lenS_size]; simp
theorem list_extract (s : ByteArray) (a b : Nat) : (s.extract a b).data.toList = (s.data.toList.take b).drop a := by
  simp [ByteArray.data_extract, List.drop_take]
theorem frame_head (p : ByteArray) : ((frameS p).data.toList.take (4 + p.size)) = (lenS p).data.toList := by
  rw [frame_list, ← lenS_list_len, List.take_left']
  rfl
theorem frame_pay (p : ByteArray) : (frameS p).extract 4 (4 + p.size) = p := by
  apply ByteArray.ext
  apply Array.toList_inj.1
  rw [list_extract, frame_head]
  have h4 : (putS ⟨#[]⟩ (p.size : Int) 4).data.toList.length = 4 := by
    have := putS_size ⟨#[]⟩ (p.size : Int) 4
    have z : (⟨#[]⟩ : ByteArray).size = 0 := rfl
    rw [z] at this
    simpa using this
  rw [lenS, ByteArray.data_append, Array.toList_append, ← h4, List.drop_left']
  rfl
/-- A whole frame is read. -/
theorem unf_frame (p : ByteArray) (h : p.size ≤ 8392) : unf (frameS p) 0 = (p, ((p.size + 8 : Nat) : Int), 0) := by
  have hs := frame_size p
  have hl := frame_len p h
  unfold unf
  rw [if_neg (by omega)]
  simp only [Int.toNat_zero, Nat.zero_add]
  rw [hl, if_neg (by omega), if_neg (by omega), if_neg (by omega), frame_crc, if_neg]
  · rw [frame_pay, Nat.add_comm]
  · have : crcN ((frameS p).extract 0 (4 + p.size)) = crcN (lenS p) := by
      unfold crcN
      rw [list_extract, frame_head, List.drop_zero]
    rw [this]
    simp
/-- A frame without its end is short. -/
theorem unf_cut (p : ByteArray) (h : p.size ≤ 8392) (k : Nat) (h4 : 4 ≤ k) (hk : k < p.size + 8) : unf ((frameS p).extract 0 k) 0 = (⟨#[]⟩, 0, 5) := by
  have hs := frame_size p
  have hz : ((frameS p).extract 0 k).size = k := by rw [ByteArray.size_extract]; omega
  have hl : uget ((frameS p).extract 0 k) 0 4 = p.size := by
    rw [← frame_len p h]
    apply uget_congr
    intro i hi
    rw [list_extract, List.drop_zero, List.getD, List.getD, List.getElem?_take_of_lt (by omega)]
  unfold unf
  rw [if_neg (by omega)]
  simp only [Int.toNat_zero, Nat.zero_add]
  rw [hl, hz, if_neg (by omega), if_neg (by omega), if_pos (by omega)]
theorem burst_one (l : List UInt8) (k : Nat) (hk : k < l.length) (b : UInt8) (h : crc l = crc (l.set k b)) : b = l[k] := by
  have e1 : l = l.take k ++ [l[k]] ++ l.drop (k + 1) := by
    rw [List.append_assoc, List.singleton_append, ← List.drop_eq_getElem_cons hk, List.take_append_drop]
  have e2 : l.set k b = l.take k ++ [b] ++ l.drop (k + 1) := by rw [List.set_eq_take_append_cons_drop, if_pos hk]; simp
  have h' : crc (l.take k ++ [l[k]] ++ l.drop (k + 1)) = crc (l.take k ++ [b] ++ l.drop (k + 1)) := by rw [← e1, ← e2]; exact h
  have := crc_burst _ _ (x := [l[k]]) (y := [b]) rfl (by simp) h'
  exact (List.cons.inj this).1.symm
/-- A frame in which a byte of the payload or of the checksum is changed has a wrong sum. -/
theorem unf_changed (p g : ByteArray) (h : p.size ≤ 8392) (k : Nat) (h4 : 4 ≤ k) (hk : k < p.size + 8) (b : UInt8) (hg : g.data.toList = (frameS p).data.toList.set k b) (hb : b ≠ (frameS p).data.toList.getD k 0) : unf g 0 = (⟨#[]⟩, 0, 3) := by
  have hs := frame_size p
  have hz : g.size = p.size + 8 := by
    have := congrArg List.length hg
    simp at this
    omega
  have same : ∀ i, i ≠ k → g.data.toList.getD i 0 = (frameS p).data.toList.getD i 0 := fun i hi => by
    rw [hg, List.getD, List.getD, List.getElem?_set_ne (by omega)]
  have other : g.data.toList.getD k 0 = b := by
    rw [hg, List.getD, List.getElem?_set_self (by simp; omega)]; rfl
  have hl : uget g 0 4 = p.size := by
    rw [← frame_len p h]
    exact uget_congr 0 4 fun i hi => same _ (by omega)
  unfold unf
  rw [if_neg (by omega)]
  simp only [Int.toNat_zero, Nat.zero_add]
  rw [hl, hz, if_neg (by omega), if_neg (by omega), if_neg (by omega), if_pos]
  intro e
  by_cases hp : k < 4 + p.size
  · have hc : uget g (4 + p.size) 4 = crcN (lenS p) := by
      rw [← frame_crc p]
      exact uget_congr _ 4 fun i hi => same _ (by omega)
    rw [hc] at e
    unfold crcN at e
    rw [list_extract, List.drop_zero, hg, List.take_set, frame_head] at e
    have hkl : k < (lenS p).data.toList.length := by rw [lenS_list_len]; exact hp
    have e2 := burst_one _ k hkl b e
    apply hb
    have : (frameS p).data.toList.getD k 0 = (lenS p).data.toList[k] := by
      rw [frame_list, List.getD, List.getElem?_append_left hkl, List.getElem?_eq_getElem hkl]; rfl
    rw [this]
    exact e2
  · have hc : crcN (g.extract 0 (4 + p.size)) = crcN (lenS p) := by
      unfold crcN
      rw [list_extract, List.drop_zero, hg, List.take_set_of_le (by omega), frame_head]
    rw [hc, ← frame_crc p] at e
    have := uget_inj _ 4 e (k - (4 + p.size)) (by omega)
    rw [show 4 + p.size + (k - (4 + p.size)) = k from by omega, other] at this
    exact hb this
end Go.Proofs.YtpfcnppaancmfaaDoor.cd
