/- The bytes of a page read back: the page. -/
import Derived.Test.YtlfcnjnfnfimmaaDoorFd
import Derived.Test.YtlfcnjnfnfimmaaDoorEd
namespace Go.Proofs.YtlfcnjnfnfimmaaDoor.ga
open Go.ChangeShapes Go.WideShapes Go.ChangeAt Go.RowKit Go.Proofs.YtlfcnjnfnfimmaaDoor.cm Go.Proofs.YtlfcnjnfnfimmaaDoor.cw Go.Proofs.YtlfcnjnfnfimmaaDoor.cp Go.Proofs.YtlfcnjnfnfimmaaDoor.cg Go.Proofs.YtlfcnjnfnfimmaaDoor.ch Go.Proofs.YtlfcnjnfnfimmaaDoor.ck Go.Proofs.YtlfcnjnfnfimmaaDoor.cx Go.Proofs.YtlfcnjnfnfimmaaDoor.ra Go.Proofs.YtlfcnjnfnfimmaaDoor.rb Go.Proofs.YtlfcnjnfnfimmaaDoor.rc Go.Proofs.YtlfcnjnfnfimmaaDoor.da Go.Proofs.YtlfcnjnfnfimmaaDoor.db Go.Proofs.YtlfcnjnfnfimmaaDoor.dc Go.Proofs.YtlfcnjnfnfimmaaDoor.dd Go.Proofs.YtlfcnjnfnfimmaaDoor.de Go.Proofs.YtlfcnjnfnfimmaaDoor.df Go.Proofs.YtlfcnjnfnfimmaaDoor.dg Go.Proofs.YtlfcnjnfnfimmaaDoor.dh Go.Proofs.YtlfcnjnfnfimmaaDoor.di Go.Proofs.YtlfcnjnfnfimmaaDoor.dj Go.Proofs.YtlfcnjnfnfimmaaDoor.dk Go.Proofs.YtlfcnjnfnfimmaaDoor.dl Go.Proofs.YtlfcnjnfnfimmaaDoor.ed Go.Proofs.YtlfcnjnfnfimmaaDoor.fa Go.Proofs.YtlfcnjnfnfimmaaDoor.fb Go.Proofs.YtlfcnjnfnfimmaaDoor.fd

theorem ext_list {a b : ByteArray} (h : a.data.toList = b.data.toList) : a = b := by
  apply ByteArray.ext
  apply Array.ext'
  exact h
theorem extract_mid (a b c : ByteArray) (n m : Nat) (ha : a.size = n) (hb : b.size = m) : (a ++ (b ++ c)).extract n (n + m) = b := by
  apply ext_list
  subst ha; subst hb
  rw [list_extract, toL_append, toL_append, List.take_append, List.drop_append]
  have h1 : a.data.toList.length = a.size := toL_length a
  have h2 : b.data.toList.length = b.size := toL_length b
  rw [List.take_of_length_le (by omega), h1, List.drop_eq_nil_of_le (by omega), List.nil_append, Nat.sub_self, List.drop_zero, show a.size + b.size - a.size = b.size from by omega, List.take_append_of_le_length (by omega), List.take_of_length_le (by omega)]
theorem cellR_S {c : CellM} (h : cellB c = true) : cellR (cellS c) = c := by
  obtain ⟨b, s⟩ := c
  have hv : s.size ≤ 12 ∧ (b = false → s = ⟨#[]⟩) := by
    unfold cellB at h
    exact of_decide_eq_true h
  have h0 : byteN (cellS ⟨b, s⟩) 0 = countOf ⟨b, s⟩ % 256 := by
    unfold byteN cellS
    rw [toL_append, toL_append, strOfNums_data]
    show (UInt8.ofNat (byteAt (countOf ⟨b, s⟩ : Nat) 0).toNat).toNat = _
    unfold byteAt
    simp
    omega
  unfold cellR
  rw [h0]
  cases b
  · rw [hv.2 rfl]; rfl
  · have e : countOf ⟨true, s⟩ = s.size := rfl
    rw [e, if_neg (by omega), show s.size % 256 = s.size from by omega, Nat.min_eq_left hv.1]
    congr 1
    have h1 : (cellS ⟨true, s⟩).extract 1 13 = s ++ zeroS (12 - s.size) := by
      have h2 := extract_mid (strOfNums (putN (countOf ⟨true, s⟩ : Nat) 1)) (s ++ zeroS (12 - s.size)) ⟨#[]⟩ 1 12 (by rw [strOfNums_size, putN_length]) (by rw [ByteArray.size_append, zeroS_size]; omega)
      rw [append_nil] at h2
      exact h2
    rw [h1]
    have h3 := extract_mid ⟨#[]⟩ s (zeroS (12 - s.size)) 0 s.size rfl rfl
    rwa [strOfNums_nil_append, Nat.zero_add] at h3
theorem enc_cell {p : Pg} (hs : Small p) {k : Nat} (hk : k < 16) (hv : cellB (p.cell k) = true) : cellOf (encS p) k = p.cell k := by
  obtain ⟨r, hr⟩ := encS_cut p k hk
  unfold cellOf
  rw [hr, extract_mid _ _ _ (12 + 13 * k) 13 (mainS_size hs k (by omega)) (cellS_size (hs k hk)), cellR_S hv]
theorem enc_getid (p : Pg) (h0 : 0 ≤ p.id) (h1 : p.id < 64) : getN (encS p) 8 4 = p.id := by
  have e : encS p = putS (putS ⟨#[]⟩ p.lsn 8) p.id 4 ++ (cellsS p.cell 16 ++ zeroS 24 ++ (strOfNums (putN (crcN (bodyS p) : Nat) 4) ++ strOfNums (putN p.lsn 8))) := by
    show bodyS p ++ strOfNums (putN (crcN (bodyS p) : Nat) 4) ++ strOfNums (putN p.lsn 8) = _
    generalize strOfNums (putN (crcN (bodyS p) : Nat) 4) = X
    unfold bodyS mainS headS
    simp only [append_assoc]
  have := getN_put (putS ⟨#[]⟩ p.lsn 8) (cellsS p.cell 16 ++ zeroS 24 ++ (strOfNums (putN (crcN (bodyS p) : Nat) 4) ++ strOfNums (putN p.lsn 8))) p.id 4 (by decide)
  rw [← e, putS_size] at this
  refine this.trans ?_
  unfold backN
  rw [IntKind.wrap_i64]
  simp only [Nat.reduceMul, Int.reducePow]
  omega
theorem encE_parts {p : Pg} (h : encE p = 0) : (0 ≤ p.id ∧ p.id < 64 ∧ 0 ≤ p.lsn ∧ p.lsn ≤ 1099511627776) ∧ (∀ i, i < 16 → cellOkB p i = true) := by
  unfold encE at h
  split at h
  · split at h
    · rename_i h1 h2
      refine ⟨?_, cellsB_iff.1 h2⟩
      unfold numsB at h1
      simpa using h1
    · cases h
  · cases h
theorem read_enc {p : Pg} (h : encE p = 0) : sameP (readPg (encS p)) p = true := by
  obtain ⟨⟨a0, a1, b0, b1⟩, hc⟩ := encE_parts h
  refine sameP_iff.2 ⟨enc_getid p a0 a1, enc_getlsn p b0 b1, fun i hi => ?_⟩
  show (if i < 16 then cellOf (encS p) i else noCell) = p.cell i
  rw [if_pos hi]
  have := hc i hi
  unfold cellOkB at this
  exact enc_cell (small_of_encE h) hi (Bool.and_eq_true_iff.1 this).1
theorem sameP_symm {p q : Pg} (h : sameP p q = true) : sameP q p = true := by
  obtain ⟨h1, h2, h3⟩ := sameP_iff.1 h
  exact sameP_iff.2 ⟨h1.symm, h2.symm, fun i hi => (h3 i hi).symm⟩
theorem sameP_trans {p q r : Pg} (h : sameP p q = true) (h' : sameP q r = true) : sameP p r = true := by
  obtain ⟨h1, h2, h3⟩ := sameP_iff.1 h
  obtain ⟨g1, g2, g3⟩ := sameP_iff.1 h'
  exact sameP_iff.2 ⟨h1.trans g1, h2.trans g2, fun i hi => (h3 i hi).trans (g3 i hi)⟩
theorem sameP_arr {p q : Pg} (h : sameP p q = true) : p.arr = q.arr := by
  obtain ⟨h1, h2, h3⟩ := sameP_iff.1 h
  exact arr_congr h1 h2 h3
theorem cellsS_congr {f g : Nat → CellM} : ∀ n, (∀ i, i < n → f i = g i) → cellsS f n = cellsS g n
  | 0, _ => rfl
  | n + 1, h => by rw [cellsS, cellsS, cellsS_congr n (fun i hi => h i (by omega)), h n (by omega)]
theorem encS_congr {p q : Pg} (h : sameP p q = true) : encS p = encS q := by
  obtain ⟨h1, h2, h3⟩ := sameP_iff.1 h
  have hb : bodyS p = bodyS q := by
    unfold bodyS mainS headS
    rw [h1, h2, cellsS_congr 16 h3]
  unfold encS
  rw [hb, h2]
theorem cellsB_congr {p q : Pg} (h : sameP p q = true) : cellsB p = cellsB q := by
  obtain ⟨h1, h2, h3⟩ := sameP_iff.1 h
  rw [Bool.eq_iff_iff, cellsB_iff, cellsB_iff]
  constructor
  · intro hh i hi
    have := hh i hi
    unfold cellOkB at this ⊢
    rwa [h3 i hi, h2] at this
  · intro hh i hi
    have := hh i hi
    unfold cellOkB at this ⊢
    rwa [← h3 i hi, ← h2] at this
theorem encE_congr {p q : Pg} (h : sameP p q = true) : encE p = encE q := by
  have hc := cellsB_congr h
  obtain ⟨h1, h2, h3⟩ := sameP_iff.1 h
  unfold encE numsB
  rw [hc, h1, h2]
/-- Bytes tell a page: equal ones, equal pages. -/
theorem encS_inj {p q : Pg} (hp : encE p = 0) (hq : encE q = 0) : encS p = encS q ↔ sameP p q = true := by
  constructor
  · intro h
    have h1 := read_enc hp
    rw [h] at h1
    exact sameP_trans (sameP_symm h1) (read_enc hq)
  · exact encS_congr
theorem encE_valid (p : Pg) : (encE p == 0) = validB p := by
  unfold encE validB
  cases numsB p <;> cases cellsB p <;> rfl
theorem dec_enc {p : Pg} (h : encE p = 0) : decE (encS p) = 0 ∧ sameP (decP (encS p)) p = true := by
  have hs := small_of_encE h
  obtain ⟨hpos, hcr⟩ := enc_sealed hs
  have hc : checkE (encS p) = 0 := by
    unfold checkE
    rw [if_neg (by rw [encS_size hs]; simp)]
    rw [if_neg (fun e => by
      obtain ⟨i, j, _, _, h1, _⟩ := enc_two h
      rw [e, byteN_zero] at h1
      exact h1 rfl)]
    rw [if_neg (fun e => e (bytes_ext (by rw [ByteArray.size_extract, ByteArray.size_extract, hpos.1]; rfl) (fun i hi => by
      rw [ByteArray.size_extract, hpos.1] at hi
      rw [byteN_extract _ 0 8 i (by omega), byteN_extract _ 248 256 i (by omega), Nat.zero_add]
      exact hpos.2 i (by omega))))]
    rw [if_neg (fun e => e hcr)]
  have hr := read_enc h
  have hd : decE (encS p) = 0 := by
    unfold decE
    rw [if_pos hc, if_pos]
    have he : encE (readPg (encS p)) = 0 := (encE_congr hr).trans h
    exact ⟨by unfold encA; rw [if_pos he]; exact encS_congr hr, he⟩
  refine ⟨hd, ?_⟩
  unfold decP
  rw [if_pos hd]
  exact hr
end Go.Proofs.YtlfcnjnfnfimmaaDoor.ga
