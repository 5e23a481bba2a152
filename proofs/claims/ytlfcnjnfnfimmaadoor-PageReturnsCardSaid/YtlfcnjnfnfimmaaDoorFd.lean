/- PageDamage: the plain mathematics of bytes of a page in which one is changed. -/
import Derived.Test.YtlfcnjnfnfimmaaDoorFb
namespace Go.Proofs.YtlfcnjnfnfimmaaDoor.fd
open Go.ChangeShapes Go.WideShapes Go.ChangeAt Go.RowKit Go.Proofs.YtlfcnjnfnfimmaaDoor.cm Go.Proofs.YtlfcnjnfnfimmaaDoor.cw Go.Proofs.YtlfcnjnfnfimmaaDoor.cp Go.Proofs.YtlfcnjnfnfimmaaDoor.cg Go.Proofs.YtlfcnjnfnfimmaaDoor.ch Go.Proofs.YtlfcnjnfnfimmaaDoor.ck Go.Proofs.YtlfcnjnfnfimmaaDoor.cx Go.Proofs.YtlfcnjnfnfimmaaDoor.ra Go.Proofs.YtlfcnjnfnfimmaaDoor.rb Go.Proofs.YtlfcnjnfnfimmaaDoor.rc Go.Proofs.YtlfcnjnfnfimmaaDoor.da Go.Proofs.YtlfcnjnfnfimmaaDoor.db Go.Proofs.YtlfcnjnfnfimmaaDoor.dc Go.Proofs.YtlfcnjnfnfimmaaDoor.dd Go.Proofs.YtlfcnjnfnfimmaaDoor.de Go.Proofs.YtlfcnjnfnfimmaaDoor.df Go.Proofs.YtlfcnjnfnfimmaaDoor.dg Go.Proofs.YtlfcnjnfnfimmaaDoor.dh Go.Proofs.YtlfcnjnfnfimmaaDoor.di Go.Proofs.YtlfcnjnfnfimmaaDoor.dj Go.Proofs.YtlfcnjnfnfimmaaDoor.dk Go.Proofs.YtlfcnjnfnfimmaaDoor.dl Go.Proofs.YtlfcnjnfnfimmaaDoor.fa Go.Proofs.YtlfcnjnfnfimmaaDoor.fb

theorem hurt_size {f : ByteArray} {k : Nat} {x : Int} (hk : k < f.size) : (hurt f k x).size = f.size := by
  have := congrArg List.length (hurt_list f k x hk)
  simpa using this
theorem hurt_other {f : ByteArray} {k : Nat} {x : Int} (hk : k < f.size) {i : Nat} (hi : i ≠ k) : byteN (hurt f k x) i = byteN f i := by
  unfold byteN
  rw [hurt_list f k x hk, List.getD, List.getElem?_set_ne (by omega), List.getD]
theorem hurt_at {f : ByteArray} {k : Nat} {x : Int} (hk : k < f.size) : byteN (hurt f k x) k = (UInt8.ofNat x.toNat).toNat := by
  have hl : k < f.data.toList.length := by simpa using hk
  unfold byteN
  rw [hurt_list f k x hk, List.getD, List.getElem?_set_self hl]; rfl
/-- The byte that the law puts is another one. -/
theorem hurt_ne {f : ByteArray} {k : Nat} (hk : k < f.size) {b : Int} (hb : b ≠ 0) (hb0 : 0 ≤ b) (hb1 : b ≤ 255) : byteN (hurt f k (bits .xor .u8 (byteN f k : Nat) b)) k ≠ byteN f k := by
  obtain ⟨c, rfl⟩ := Int.eq_ofNat_of_zero_le hb0
  have hlt := byteN_lt f k
  rw [hurt_at hk, bits_xor8 _ c hlt (by omega), Int.toNat_natCast]
  have hx : byteN f k ^^^ c < 2 ^ 8 := Nat.xor_lt_two_pow hlt (by omega)
  rw [UInt8.toNat_ofNat_of_lt' hx]
  exact xor_ne _ c (by omega)
/-- Both ends agree, and the checksum is right. -/
def Sealed (s : ByteArray) : Prop := Posd s ∧ uget s 244 4 = crcN (s.extract 0 244)
theorem dec_sealed {s : ByteArray} (h : decE s = 0) : Sealed s := by
  refine ⟨posd_dec (.inl h), ?_⟩
  have hc : checkE s = 0 := by
    apply Classical.byContradiction
    intro hc
    unfold decE at h
    rw [if_neg hc] at h
    exact hc h
  unfold checkE at hc
  by_cases h1 : s.size ≠ 256
  · rw [if_pos h1] at hc; cases hc
  · rw [if_neg h1] at hc
    by_cases h2 : s = zeroS 256
    · rw [if_pos h2] at hc; cases hc
    · rw [if_neg h2] at hc
      by_cases h3 : s.extract 0 8 ≠ s.extract 248 256
      · rw [if_pos h3] at hc; cases hc
      · rw [if_neg h3] at hc
        by_cases h4 : uget s 244 4 ≠ crcN (s.extract 0 244)
        · rw [if_pos h4] at hc; cases hc
        · simpa using h4
theorem dec_blank {s : ByteArray} (h : decE s = 7) : s = zeroS 256 := by
  unfold decE at h
  by_cases hc : checkE s = 0
  · rw [if_pos hc] at h
    split at h <;> cases h
  · rw [if_neg hc] at h
    unfold checkE at h
    by_cases h1 : s.size ≠ 256
    · rw [if_pos h1] at h; cases h
    · rw [if_neg h1] at h
      by_cases h2 : s = zeroS 256
      · exact h2
      · rw [if_neg h2] at h
        split at h
        · cases h
        · split at h <;> cases h
theorem hurt_unsealed {s : ByteArray} (hs : Sealed s) {k : Nat} (hk : k < 256) {x : Int} (hn : byteN (hurt s k x) k ≠ byteN s k) : ¬ Sealed (hurt s k x) := by
  obtain ⟨⟨hz, hp⟩, hc⟩ := hs
  have hks : k < s.size := by omega
  rintro ⟨⟨hz2, hp2⟩, hc2⟩
  by_cases h8 : k < 8
  · have h1 := hp2 k h8
    rw [hurt_other hks (by omega : 248 + k ≠ k), ← hp k h8] at h1
    exact hn h1
  · by_cases h248 : 248 ≤ k
    · have h1 := hp2 (k - 248) (by omega)
      rw [show 248 + (k - 248) = k from by omega, hurt_other hks (by omega : k - 248 ≠ k), hp (k - 248) (by omega), show 248 + (k - 248) = k from by omega] at h1
      exact hn h1.symm
    · by_cases h244 : 244 ≤ k
      · have hb : (hurt s k x).extract 0 244 = s.extract 0 244 := by
          refine bytes_ext (by rw [ByteArray.size_extract, ByteArray.size_extract, hz2, hz]) (fun i hi => ?_)
          rw [ByteArray.size_extract] at hi
          rw [byteN_extract _ 0 244 i (by omega), byteN_extract _ 0 244 i (by omega), Nat.zero_add, hurt_other hks (by omega)]
        rw [hb, ← hc] at hc2
        have h1 := uget_inj 244 4 hc2 (k - 244) (by omega)
        rw [show 244 + (k - 244) = k from by omega] at h1
        exact hn (congrArg UInt8.toNat h1)
      · have hu : uget (hurt s k x) 244 4 = uget s 244 4 := uget_congrN 244 4 (fun i _ => hurt_other hks (by omega))
        rw [hu, hc] at hc2
        unfold crcN at hc2
        have hl : ((hurt s k x).extract 0 244).data.toList = ((s.extract 0 244).data.toList).set k (UInt8.ofNat x.toNat) := by
          rw [list_extract, list_extract, hurt_list s k x hks, List.drop_zero, List.drop_zero, List.take_set]
        rw [hl] at hc2
        have hkl : k < (s.extract 0 244).data.toList.length := by rw [toL_length, ByteArray.size_extract]; omega
        have h1 := burst_one _ k hkl _ hc2
        apply hn
        rw [hurt_at hks, h1]
        have h2 := byteN_extract s 0 244 k (by omega)
        rw [Nat.zero_add] at h2
        rw [← h2]
        unfold byteN
        rw [List.getD, List.getElem?_eq_getElem hkl]; rfl
theorem enc_sealed {p : Pg} (h : Small p) : Sealed (encS p) := by
  refine ⟨posd_enc h, ?_⟩
  have hc := crcN_lt (bodyS p)
  have h1 := ck.uget_put (bodyS p) (strOfNums (putN p.lsn 8)) (crcN (bodyS p) : Nat) 4 (by decide) 4 (by decide)
  rw [bodyS_size h] at h1
  have h2 : ((uget (encS p) 244 4 : Nat) : Int) = (crcN (bodyS p) : Int) % 4294967296 := h1
  have hb : (encS p).extract 0 244 = bodyS p := by
    refine bytes_ext (by rw [ByteArray.size_extract, encS_size h, bodyS_size h]; rfl) (fun i hi => ?_)
    rw [ByteArray.size_extract, encS_size h] at hi
    rw [byteN_extract _ 0 244 i (by omega), Nat.zero_add]
    show byteN (bodyS p ++ strOfNums (putN (crcN (bodyS p) : Nat) 4) ++ strOfNums (putN p.lsn 8)) i = _
    rw [append_assoc, byteN_append_left _ _ _ (by rw [bodyS_size h]; omega)]
  rw [hb]
  omega
/-- Two bytes of a page are not 0. -/
theorem enc_two {p : Pg} (he : encE p = 0) : ∃ i j, i < j ∧ j < 256 ∧ byteN (encS p) i ≠ 0 ∧ byteN (encS p) j ≠ 0 := by
  have hsm := small_of_encE he
  have hv : numsB p = true ∧ cellsB p = true := by
    unfold encE at he
    split at he
    · split at he
      · exact ⟨‹_›, ‹_›⟩
      · cases he
    · cases he
  have hn : 0 ≤ p.id ∧ p.id < 64 ∧ 0 ≤ p.lsn ∧ p.lsn ≤ 1099511627776 := by
    have := hv.1
    unfold numsB at this
    simpa using this
  by_cases h0 : p.lsn = 0
  · have hun : ∀ k, k < 16 → byteN (encS p) (12 + 13 * k) = 255 := fun k hk => by
      rw [encS_count hsm k hk]
      have := cellsB_iff.1 hv.2 k hk
      unfold cellOkB at this
      rw [decide_eq_true h0] at this
      have hs : (p.cell k).set = false := by
        cases e : (p.cell k).set with
        | false => rfl
        | true => rw [e] at this; simp at this
      unfold countOf
      rw [hs]; rfl
    have h1 := hun 0 (by decide)
    have h2 := hun 1 (by decide)
    exact ⟨12 + 13 * 0, 12 + 13 * 1, by decide, by decide, by rw [h1]; decide, by rw [h2]; decide⟩
  · obtain ⟨i, hi, hne⟩ := lsn_differ (s := encS p) (t := zeroS 256) (by rw [zero_getlsn, enc_getlsn p hn.2.2.1 hn.2.2.2]; exact h0)
    rw [byteN_zero] at hne
    have hp := (posd_enc hsm).2 i hi
    exact ⟨i, 248 + i, by omega, by omega, hne, by rw [← hp]; exact hne⟩
theorem hurt_page {p : Pg} (he : encE p = 0) {k : Nat} (hk : k < 256) {b : Int} (hb : b ≠ 0) (hb0 : 0 ≤ b) (hb1 : b ≤ 255) :
    decE (hurt (encS p) k (bits .xor .u8 (byteN (encS p) k : Nat) b)) ≠ 0 ∧ decE (hurt (encS p) k (bits .xor .u8 (byteN (encS p) k : Nat) b)) ≠ 7 := by
  have hsm := small_of_encE he
  have hz := encS_size hsm
  have hne := hurt_ne (f := encS p) (k := k) (by omega) hb hb0 hb1
  refine ⟨fun h => hurt_unsealed (enc_sealed hsm) hk hne (dec_sealed h), fun h => ?_⟩
  have hzz := dec_blank h
  obtain ⟨i, j, hij, hj, h1, h2⟩ := enc_two he
  by_cases e : i = k
  · have := hurt_other (f := encS p) (x := bits .xor .u8 (byteN (encS p) k : Nat) b) (by omega : k < (encS p).size) (i := j) (by omega)
    rw [hzz, byteN_zero] at this
    exact h2 this.symm
  · have := hurt_other (f := encS p) (x := bits .xor .u8 (byteN (encS p) k : Nat) b) (by omega : k < (encS p).size) (i := i) e
    rw [hzz, byteN_zero] at this
    exact h1 this.symm
theorem hurt_blank {k : Nat} (hk : k < 256) {b : Int} (hb : b ≠ 0) (hb0 : 0 ≤ b) (hb1 : b ≤ 255) :
    decE (hurt (zeroS 256) k (bits .xor .u8 (byteN (zeroS 256) k : Nat) b)) ≠ 0 ∧ decE (hurt (zeroS 256) k (bits .xor .u8 (byteN (zeroS 256) k : Nat) b)) ≠ 7 := by
  have hz := zeroS_size 256
  have hne := hurt_ne (f := zeroS 256) (k := k) (by omega) hb hb0 hb1
  have hot := fun i (hi : i ≠ k) => hurt_other (f := zeroS 256) (x := bits .xor .u8 (byteN (zeroS 256) k : Nat) b) (by omega : k < (zeroS 256).size) hi
  have hsz := hurt_size (f := zeroS 256) (x := bits .xor .u8 (byteN (zeroS 256) k : Nat) b) (by omega : k < (zeroS 256).size)
  generalize hurt (zeroS 256) k (bits .xor .u8 (byteN (zeroS 256) k : Nat) b) = x at hne hot hsz
  rw [byteN_zero] at hne
  have hot' : ∀ i, i ≠ k → byteN x i = 0 := fun i hi => by rw [hot i hi, byteN_zero]
  refine ⟨fun h => ?_, fun h => hne (by rw [dec_blank h, byteN_zero])⟩
  have hpos := posd_dec (.inl h)
  have hk8 : 8 ≤ k ∧ k < 248 := by
    refine ⟨?_, ?_⟩
    · apply Classical.byContradiction
      intro hc
      have := hpos.2 k (by omega)
      rw [hot' (248 + k) (by omega)] at this
      exact hne this
    · apply Classical.byContradiction
      intro hc
      have := hpos.2 (k - 248) (by omega)
      rw [hot' (k - 248) (by omega), show 248 + (k - 248) = k from by omega] at this
      exact hne this.symm
  have hc : checkE x = 0 := by
    apply Classical.byContradiction
    intro hc
    unfold decE at h
    rw [if_neg hc] at h
    exact hc h
  have hee : encE (readPg x) = 0 := by
    unfold decE at h
    rw [if_pos hc] at h
    by_cases e : encA (readPg x) = x ∧ encE (readPg x) = 0
    · exact e.2
    · rw [if_neg e] at h; cases h
  have hl : (readPg x).lsn = 0 := by
    show getN x 0 8 = 0
    rw [← zero_getlsn]
    unfold getN
    rw [uget_congrN (s := x) (t := zeroS 256) 0 8 (fun i hi => by rw [hot' (0 + i) (by omega), byteN_zero])]
  obtain ⟨c, hc16, hcb⟩ : ∃ c, c < 16 ∧ byteN x (12 + 13 * c) = 0 := by
    by_cases e : k = 12
    · exact ⟨1, by decide, hot' _ (by omega)⟩
    · exact ⟨0, by decide, hot' _ (by omega)⟩
  have hset : ((readPg x).cell c).set = true := by
    show (if c < 16 then cellOf x c else noCell).set = true
    rw [if_pos hc16]
    unfold cellOf cellR
    rw [byteN_extract x _ _ 0 (by omega), Nat.add_zero, hcb, if_neg (by decide)]
  have hno := cellsB_no hc16 (ok_zero hset (by rw [hl]; rfl))
  unfold encE at hee
  rw [hno] at hee
  split at hee
  · cases hee
  · cases hee
end Go.Proofs.YtlfcnjnfnfimmaaDoor.fd
