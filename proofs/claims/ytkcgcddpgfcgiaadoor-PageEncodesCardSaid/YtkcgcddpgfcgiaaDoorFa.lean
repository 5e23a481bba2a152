/- Bytes of pages that are torn, or in which one byte is changed: the plain mathematics. -/
import Derived.Test.YtkcgcddpgfcgiaaDoorDl
import Derived.Test.YtkcgcddpgfcgiaaDoorCk
namespace Go.Proofs.YtkcgcddpgfcgiaaDoor.fa
open Go.ChangeShapes Go.WideShapes Go.ChangeAt Go.RowKit Go.Proofs.YtkcgcddpgfcgiaaDoor.cm Go.Proofs.YtkcgcddpgfcgiaaDoor.cw Go.Proofs.YtkcgcddpgfcgiaaDoor.cp Go.Proofs.YtkcgcddpgfcgiaaDoor.cg Go.Proofs.YtkcgcddpgfcgiaaDoor.ch Go.Proofs.YtkcgcddpgfcgiaaDoor.ck Go.Proofs.YtkcgcddpgfcgiaaDoor.ra Go.Proofs.YtkcgcddpgfcgiaaDoor.rb Go.Proofs.YtkcgcddpgfcgiaaDoor.rc Go.Proofs.YtkcgcddpgfcgiaaDoor.da Go.Proofs.YtkcgcddpgfcgiaaDoor.db Go.Proofs.YtkcgcddpgfcgiaaDoor.dc Go.Proofs.YtkcgcddpgfcgiaaDoor.dd Go.Proofs.YtkcgcddpgfcgiaaDoor.de Go.Proofs.YtkcgcddpgfcgiaaDoor.df Go.Proofs.YtkcgcddpgfcgiaaDoor.dg Go.Proofs.YtkcgcddpgfcgiaaDoor.dh Go.Proofs.YtkcgcddpgfcgiaaDoor.di Go.Proofs.YtkcgcddpgfcgiaaDoor.dj Go.Proofs.YtkcgcddpgfcgiaaDoor.dk Go.Proofs.YtkcgcddpgfcgiaaDoor.dl

theorem byteN_get (s : ByteArray) (i : Nat) (h : i < s.size) : byteN s i = (s[i]).toNat := by unfold byteN; rw [getD_byte s i h]
theorem bytes_ext {s t : ByteArray} (hz : s.size = t.size) (h : ∀ i, i < s.size → byteN s i = byteN t i) : s = t := by
  apply ByteArray.ext
  apply Array.ext'
  apply List.ext_getElem
  · simpa using hz
  · intro i h1 h2
    have h1' : i < s.size := by simpa using h1
    have h2' : i < t.size := by simpa using h2
    have := h i h1'
    rw [byteN_get s i h1', byteN_get t i h2'] at this
    exact UInt8.toNat_inj.1 this
theorem byteN_append_left (a b : ByteArray) (i : Nat) (h : i < a.size) : byteN (a ++ b) i = byteN a i := by
  unfold byteN
  rw [toL_append, List.getD, List.getElem?_append_left (by simpa using h), List.getD]
theorem byteN_append_right (a b : ByteArray) (i : Nat) : byteN (a ++ b) (a.size + i) = byteN b i := by
  unfold byteN
  rw [toL_append, getD_append_at _ _ _ _ (by rw [toL_length])]
theorem byteN_zero (n i : Nat) : byteN (zeroS n) i = 0 := by
  unfold byteN
  rw [zeroS_list, List.getD, List.getElem?_replicate]
  split <;> rfl
/-- Bytes of a tear. -/
theorem byteN_tear (s t : ByteArray) (k i : Nat) (hs : s.size = 256) (hk : k ≤ 256) (hi : i < 256) : byteN (s.extract 0 k ++ t.extract k 256) i = if i < k then byteN s i else byteN t i := by
  have hz : (s.extract 0 k).size = k := by rw [ByteArray.size_extract]; omega
  split
  · rw [byteN_append_left _ _ _ (by omega), byteN_extract s 0 k i (by omega), Nat.zero_add]
  · have e : i = (s.extract 0 k).size + (i - k) := by omega
    conv => lhs; rw [e]
    rw [byteN_append_right, byteN_extract t k 256 (i - k) (by omega)]
    congr 1
    omega
theorem tear_size (s t : ByteArray) (k : Nat) (hs : s.size = 256) (ht : t.size = 256) (hk : k ≤ 256) : (s.extract 0 k ++ t.extract k 256).size = 256 := by
  rw [ByteArray.size_append, ByteArray.size_extract, ByteArray.size_extract]; omega
/-- The eight bytes of the position stand at both ends. -/
def Posd (s : ByteArray) : Prop := s.size = 256 ∧ ∀ i, i < 8 → byteN s i = byteN s (248 + i)
theorem posd_of_extract {s : ByteArray} (hs : s.size = 256) (h : s.extract 0 8 = s.extract 248 256) : Posd s := by
  refine ⟨hs, fun i hi => ?_⟩
  have h1 := byteN_extract s 0 8 i (by omega)
  have h2 := byteN_extract s 248 256 i (by omega)
  rw [h] at h1
  rw [Nat.zero_add] at h1
  rw [← h1, ← h2]
theorem posd_zero : Posd (zeroS 256) := ⟨zeroS_size 256, fun i _ => by rw [byteN_zero, byteN_zero]⟩
theorem posd_dec {s : ByteArray} (h : decE s = 0 ∨ decE s = 7) : Posd s := by
  unfold decE checkE at h
  by_cases h1 : s.size ≠ 256
  · rw [if_pos h1, if_neg (by decide)] at h
    rcases h with h | h <;> cases h
  · rw [if_neg h1] at h
    have h1' : s.size = 256 := by simpa using h1
    by_cases h2 : s = zeroS 256
    · rw [h2]; exact posd_zero
    · rw [if_neg h2] at h
      by_cases h3 : s.extract 0 8 ≠ s.extract 248 256
      · rw [if_pos h3, if_neg (by decide)] at h
        rcases h with h | h <;> cases h
      · exact posd_of_extract h1' (by simpa using h3)
theorem tear_either {s t : ByteArray} (hs : Posd s) (ht : Posd t) (hne : ∃ i, i < 8 ∧ byteN s i ≠ byteN t i) (k : Nat) (hk : k ≤ 256) (hx : Posd (s.extract 0 k ++ t.extract k 256)) :
    s.extract 0 k ++ t.extract k 256 = s ∨ s.extract 0 k ++ t.extract k 256 = t := by
  have hb := fun i hi => byteN_tear s t k i hs.1 hk hi
  have hp := hx.2
  by_cases h8 : k < 8
  · right
    refine bytes_ext (by rw [tear_size s t k hs.1 ht.1 hk, ht.1]) (fun i hi => ?_)
    rw [tear_size s t k hs.1 ht.1 hk] at hi
    rw [hb i hi]
    split
    · rename_i hik
      have h1 := hp i (by omega)
      rw [hb i hi, hb (248 + i) (by omega), if_pos hik, if_neg (by omega)] at h1
      rw [h1, ht.2 i (by omega)]
    · rfl
  · by_cases h248 : k ≤ 248
    · obtain ⟨i, hi, hn⟩ := hne
      have h1 := hp i hi
      rw [hb i (by omega), hb (248 + i) (by omega), if_pos (by omega), if_neg (by omega), ← ht.2 i hi] at h1
      exact absurd h1 hn
    · left
      refine bytes_ext (by rw [tear_size s t k hs.1 ht.1 hk, hs.1]) (fun i hi => ?_)
      rw [tear_size s t k hs.1 ht.1 hk] at hi
      rw [hb i hi]
      split
      · rfl
      · rename_i hik
        have h1 := hp (i - 248) (by omega)
        rw [hb (i - 248) (by omega), hb (248 + (i - 248)) (by omega), if_pos (by omega), if_neg (by omega)] at h1
        have h2 := hs.2 (i - 248) (by omega)
        rw [show 248 + (i - 248) = i from by omega] at h1 h2
        rw [← h1, h2]

/-- The bytes of the position. -/
theorem enc_lsn_head (p : Pg) (i : Nat) (hi : i < 8) : byteN (encS p) i = (byteAt p.lsn i).toNat := by
  have e : encS p = putS ⟨#[]⟩ p.lsn 8 ++ (strOfNums (putN p.id 4) ++ cellsS p.cell 16 ++ zeroS 24 ++ (strOfNums (putN (crcN (bodyS p) : Nat) 4) ++ strOfNums (putN p.lsn 8))) := by
    show bodyS p ++ strOfNums (putN (crcN (bodyS p) : Nat) 4) ++ strOfNums (putN p.lsn 8) = _
    generalize strOfNums (putN (crcN (bodyS p) : Nat) 4) = X
    unfold bodyS mainS headS
    conv => lhs; unfold putS
    unfold putS
    simp only [append_assoc]
  have := put_byte ⟨#[]⟩ (strOfNums (putN p.id 4) ++ cellsS p.cell 16 ++ zeroS 24 ++ (strOfNums (putN (crcN (bodyS p) : Nat) 4) ++ strOfNums (putN p.lsn 8))) p.lsn hi
  rw [← e] at this
  unfold byteN
  rw [← this]
  show _ = ((encS p).data.toList.getD (0 + i) 0).toNat
  rw [Nat.zero_add]
theorem enc_lsn_tail {p : Pg} (h : Small p) (i : Nat) (hi : i < 8) : byteN (encS p) (248 + i) = (byteAt p.lsn i).toNat := by
  have := put_byte (putS (bodyS p) (crcN (bodyS p) : Nat) 4) ⟨#[]⟩ p.lsn hi
  rw [append_nil, putS_size, bodyS_size h] at this
  exact this
theorem posd_enc {p : Pg} (h : Small p) : Posd (encS p) := ⟨encS_size h, fun i hi => by rw [enc_lsn_head p i hi, enc_lsn_tail h i hi]⟩
theorem enc_getlsn (p : Pg) (h0 : 0 ≤ p.lsn) (h1 : p.lsn ≤ 1099511627776) : getN (encS p) 0 8 = p.lsn := by
  have e : encS p = putS ⟨#[]⟩ p.lsn 8 ++ (strOfNums (putN p.id 4) ++ cellsS p.cell 16 ++ zeroS 24 ++ (strOfNums (putN (crcN (bodyS p) : Nat) 4) ++ strOfNums (putN p.lsn 8))) := by
    show bodyS p ++ strOfNums (putN (crcN (bodyS p) : Nat) 4) ++ strOfNums (putN p.lsn 8) = _
    generalize strOfNums (putN (crcN (bodyS p) : Nat) 4) = X
    unfold bodyS mainS headS
    conv => lhs; unfold putS
    unfold putS
    simp only [append_assoc]
  have := getN_put ⟨#[]⟩ (strOfNums (putN p.id 4) ++ cellsS p.cell 16 ++ zeroS 24 ++ (strOfNums (putN (crcN (bodyS p) : Nat) 4) ++ strOfNums (putN p.lsn 8))) p.lsn 8 (by decide)
  rw [← e, backN_8 _ (by omega) (by omega)] at this
  exact this
theorem uget_congrN {s t : ByteArray} (a k : Nat) (h : ∀ i, i < k → byteN s (a + i) = byteN t (a + i)) : uget s a k = uget t a k :=
  uget_congr a k (fun i hi => UInt8.toNat_inj.1 (h i hi))
theorem lsn_differ {s t : ByteArray} (h : getN s 0 8 ≠ getN t 0 8) : ∃ i, i < 8 ∧ byteN s i ≠ byteN t i := by
  apply Classical.byContradiction
  intro hc
  have he : uget s 0 8 = uget t 0 8 := uget_congrN 0 8 (fun i hi => by
    rw [Nat.zero_add]
    apply Classical.byContradiction
    intro he
    exact hc ⟨i, hi, he⟩)
  apply h
  unfold getN
  rw [he]
theorem zero_getlsn : getN (zeroS 256) 0 8 = 0 := by
  have h1 : uget (zeroS 256) 0 8 = uget ⟨#[]⟩ 0 8 := uget_congrN 0 8 (fun i _ => by rw [byteN_zero]; rfl)
  have h2 : uget ⟨#[]⟩ 0 8 = 0 := by decide
  unfold getN
  rw [h1, h2]
  decide

/-- What Identify says of a tear of two versions of a page. -/
theorem idn_pos {x : ByteArray} {id : Int} (h : idnE x id = 0) : Posd x ∧ (idnP x id).id = id := by
  have hid : idB id = true := by
    cases e : idB id with
    | true => rfl
    | false => unfold idnE at h; rw [e] at h; cases h
  have h0 := h
  unfold idnE at h
  rw [if_pos hid] at h
  by_cases h7 : decE x = 7
  · refine ⟨posd_dec (.inr h7), ?_⟩
    unfold idnP
    rw [if_pos ⟨hid, h7⟩]
    rfl
  · rw [if_neg h7] at h
    by_cases hd : decE x = 0
    · rw [if_pos hd] at h
      refine ⟨posd_dec (.inl hd), ?_⟩
      unfold idnP
      rw [if_neg (fun e => h7 e.2), if_pos h0]
      by_cases he : (readPg x).id = id
      · exact he
      · rw [if_neg he] at h; cases h
    · rw [if_neg hd] at h
      exact absurd h hd
end Go.Proofs.YtkcgcddpgfcgiaaDoor.fa
