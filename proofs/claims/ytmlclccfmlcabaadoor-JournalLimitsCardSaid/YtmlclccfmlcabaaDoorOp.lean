/- Bytes and entries: what is written is read back, nothing else is read as it, and bytes that end early are short. -/
import Derived.Test.YtmlclccfmlcabaaDoorOh
import Derived.Test.YtmlclccfmlcabaaDoorOl
import Derived.Test.YtmlclccfmlcabaaDoorCk
namespace Go.Proofs.YtmlclccfmlcabaaDoor.op
open Go.ChangeShapes Go.WideShapes Go.ChangeAt Go.RowKit Go.Proofs.YtmlclccfmlcabaaDoor.cp Go.Proofs.YtmlclccfmlcabaaDoor.cg Go.Proofs.YtmlclccfmlcabaaDoor.ch Go.Proofs.YtmlclccfmlcabaaDoor.ck Go.Proofs.YtmlclccfmlcabaaDoor.da Go.Proofs.YtmlclccfmlcabaaDoor.ed Go.Proofs.YtmlclccfmlcabaaDoor.ka Go.Proofs.YtmlclccfmlcabaaDoor.kb Go.Proofs.YtmlclccfmlcabaaDoor.kg Go.Proofs.YtmlclccfmlcabaaDoor.oa Go.Proofs.YtmlclccfmlcabaaDoor.ob Go.Proofs.YtmlclccfmlcabaaDoor.od Go.Proofs.YtmlclccfmlcabaaDoor.oh Go.Proofs.YtmlclccfmlcabaaDoor.oj Go.Proofs.YtmlclccfmlcabaaDoor.ok Go.Proofs.YtmlclccfmlcabaaDoor.ol

theorem ba_ext {a b : ByteArray} (h : a.data.toList = b.data.toList) : a = b := ByteArray.ext (Array.ext' h)
theorem app_assoc (a b c : ByteArray) : a ++ b ++ c = a ++ (b ++ c) := ba_ext (by simp [ByteArray.data_append])
theorem nil_app (a : ByteArray) : (⟨#[]⟩ : ByteArray) ++ a = a := ba_ext (by simp [ByteArray.data_append])
theorem app_nil (a : ByteArray) : a ++ (⟨#[]⟩ : ByteArray) = a := ba_ext (by simp [ByteArray.data_append])
theorem ext_app (s : ByteArray) {a b c : Nat} (h1 : a ≤ b) (h2 : b ≤ c) (h3 : c ≤ s.size) : s.extract a b ++ s.extract b c = s.extract a c := by
  apply ba_ext
  have hl : s.data.toList.length = s.size := by simp
  rw [ByteArray.data_append, Array.toList_append, list_extract, list_extract, list_extract]
  have e : s.data.toList.take c = s.data.toList.take b ++ (s.data.toList.take c).drop b := by
    have := List.take_append_drop b (s.data.toList.take c)
    rw [List.take_take, Nat.min_eq_left h2] at this
    exact this.symm
  conv => rhs; rw [e]
  rw [List.drop_append_of_le_length (by rw [List.length_take, hl]; omega)]
theorem ext_all (s : ByteArray) : s.extract 0 s.size = s := by
  apply ba_ext
  rw [list_extract, List.drop_zero, List.take_of_length_le (by simp)]
theorem ext_nil (s : ByteArray) (a : Nat) : s.extract a a = ⟨#[]⟩ := by
  apply ba_ext
  rw [list_extract, List.drop_eq_nil_of_le (by rw [List.length_take]; omega)]
/-- The bytes of a number; of a cell. -/
def pN (n : Int) (k : Nat) : ByteArray := strOfNums (putN n k)
theorem pN_size (n : Int) (k : Nat) : (pN n k).size = k := by unfold pN; rw [strOfNums_size, putN_length]
def cellP (c : CellM) : ByteArray := if c.set = true then pN c.data.size 1 ++ c.data else pN 255 1
theorem cellS_is (s : ByteArray) (c : CellM) : cellS s c = s ++ cellP c := by
  unfold cellS cellP
  split
  · exact app_assoc _ _ _
  · rfl
theorem wrap_byte (u : Int) (j : Nat) (hj : j < 8) : byteAt (IntKind.i64.wrap u) j = u / 2 ^ (8 * j) % 256 := by
  unfold byteAt
  rw [IntKind.wrap_i64]
  have h : j = 0 ∨ j = 1 ∨ j = 2 ∨ j = 3 ∨ j = 4 ∨ j = 5 ∨ j = 6 ∨ j = 7 := by omega
  rcases h with rfl | rfl | rfl | rfl | rfl | rfl | rfl | rfl <;> simp only [Nat.mul_zero, Nat.reduceMul, Int.pow_zero, Int.reducePow, Int.ediv_one] <;> omega
theorem uget_byte (s : ByteArray) (a : Nat) : ∀ (k i : Nat), i < k → uget s a k / 2 ^ (8 * i) % 256 = (s.data.toList.getD (a + i) 0).toNat
  | 0, i, h => by omega
  | k + 1, i, h => by
    have hb := (s.data.toList.getD (a + k) 0).toNat_lt
    rw [uget]
    by_cases e : i = k
    · subst e
      have := uget_lt s a i
      rw [Nat.add_mul_div_right _ _ (Nat.two_pow_pos _), Nat.div_eq_of_lt this, Nat.zero_add]
      exact Nat.mod_eq_of_lt hb
    · have ih := uget_byte s a k i (by omega)
      have e2 : 8 * k = 8 * i + 8 * (k - i) := by omega
      have e3 : 8 * (k - i) = 8 + 8 * (k - i - 1) := by omega
      have e4 : (s.data.toList.getD (a + k) 0).toNat * 2 ^ (8 * k) = (s.data.toList.getD (a + k) 0).toNat * 2 ^ (8 * (k - i - 1)) * 256 * 2 ^ (8 * i) := by
        rw [e2, Nat.pow_add, e3, Nat.pow_add, show (2 : Nat) ^ 8 = 256 from rfl]
        ac_rfl
      rw [e4, Nat.add_mul_div_right _ _ (Nat.two_pow_pos _), Nat.add_mul_mod_self_right]
      exact ih
theorem pN_get (s : ByteArray) (a k : Nat) (hk : k ≤ 8) (h : a + k ≤ s.size) : pN (getN s a k) k = s.extract a (a + k) := by
  apply ba_ext
  have hl : s.data.toList.length = s.size := by simp
  rw [list_extract]
  unfold pN
  rw [strOfNums_data]
  apply List.ext_getElem?
  intro i
  rw [List.getElem?_map]
  by_cases hi : i < k
  · have h1 : (putN (getN s a k) k)[i]? = some (byteAt (getN s a k) i) := by simp [putN, hi]
    have h2 : byteAt (getN s a k) i = ((s.data.toList.getD (a + i) 0).toNat : Int) := by
      unfold getN
      rw [wrap_byte _ _ (by omega), ← uget_byte s a k i hi]
      simp
    have hlt : a + i < s.data.toList.length := by omega
    rw [h1, h2, Option.map_some, List.getElem?_drop, List.getElem?_take, if_pos (by omega), List.getElem?_eq_getElem hlt, List.getD, List.getElem?_eq_getElem hlt]
    simp
  · rw [List.getElem?_eq_none (by rw [putN_length]; omega), List.getElem?_eq_none (by rw [List.length_drop, List.length_take]; omega)]
    rfl
/-- A reading function reads back what its writing function writes, and nothing else. -/
structure Codec {α : Type} (f : ByteArray → RS → α × RS) (W : α → ByteArray) (D : α → Prop) : Prop where
  back : ∀ s r, (f s r).2.err = 0 → r.err = 0 ∧ r.pos ≤ (f s r).2.pos ∧ (f s r).2.pos ≤ s.size ∧ s.extract r.pos (f s r).2.pos = W (f s r).1
  forth : ∀ x, D x → ∀ b c : ByteArray, f (b ++ (W x ++ c)) ⟨b.size, 0⟩ = (x, ⟨(b ++ W x).size, 0⟩)
def two {α β : Type} (f : ByteArray → RS → α × RS) (g : ByteArray → RS → β × RS) (s : ByteArray) (r : RS) : (α × β) × RS := (((f s r).1, (g s (f s r).2).1), (g s (f s r).2).2)
theorem Codec.two {α β : Type} {f : ByteArray → RS → α × RS} {g : ByteArray → RS → β × RS} {W : α → ByteArray} {V : β → ByteArray} {D : α → Prop} {E : β → Prop} (hf : Codec f W D) (hg : Codec g V E) : Codec (op.two f g) (fun x => W x.1 ++ V x.2) (fun x => D x.1 ∧ E x.2) where
  back := fun s r h => by
    obtain ⟨a1, a2, a3, a4⟩ := hg.back s (f s r).2 h
    obtain ⟨b1, b2, b3, b4⟩ := hf.back s r a1
    refine ⟨b1, Nat.le_trans b2 a2, a3, ?_⟩
    show s.extract r.pos (g s (f s r).2).2.pos = W (f s r).1 ++ V (g s (f s r).2).1
    rw [← b4, ← a4, ext_app s b2 a2 a3]
  forth := fun x hx b c => by
    obtain ⟨x, y⟩ := x
    have h1 := hf.forth x hx.1 b (V y ++ c)
    have h2 := hg.forth y hx.2 (b ++ W x) c
    have e1 : b ++ (W x ++ V y ++ c) = b ++ (W x ++ (V y ++ c)) := by rw [app_assoc (W x)]
    have e2 : b ++ W x ++ (V y ++ c) = b ++ (W x ++ (V y ++ c)) := app_assoc _ _ _
    rw [e2] at h2
    show op.two f g (b ++ (W x ++ V y ++ c)) ⟨b.size, 0⟩ = ((x, y), ⟨(b ++ (W x ++ V y)).size, 0⟩)
    rw [e1]
    unfold op.two
    rw [h1]
    simp only
    rw [h2, app_assoc]
theorem num_codec (k : Nat) (hk : k ≤ 8) : Codec (fun s r => numR s k r) (fun n => pN n k) (fun n => backN n k = n) where
  back := fun s r h => by
    obtain ⟨p, e⟩ := r
    unfold numR at h ⊢
    by_cases h0 : e = 0
    · subst h0
      simp only [if_pos] at h ⊢
      by_cases h1 : p + k ≤ s.size
      · rw [if_pos h1]
        exact ⟨trivial, Nat.le_add_right _ _, h1, (pN_get s p k hk h1).symm⟩
      · rw [if_neg h1] at h
        cases h
    · simp only [h0, if_false] at h
  forth := fun n hn b c => by
    have hs : b.size + k ≤ (b ++ (pN n k ++ c)).size := by rw [ByteArray.size_append, ByteArray.size_append, pN_size]; omega
    have hg : getN (b ++ (pN n k ++ c)) b.size k = n := by
      have := getN_put b c n k hk
      unfold putS at this
      rw [app_assoc] at this
      exact this.trans hn
    show numR (b ++ (pN n k ++ c)) k ⟨b.size, 0⟩ = _
    unfold numR
    rw [if_pos rfl, if_pos hs, hg, ByteArray.size_append, pN_size]
theorem txt_back (s : ByteArray) (n : Nat) (r : RS) (h : (txtR s n r).2.err = 0) : r.err = 0 ∧ r.pos ≤ (txtR s n r).2.pos ∧ (txtR s n r).2.pos ≤ s.size ∧ s.extract r.pos (txtR s n r).2.pos = (txtR s n r).1 ∧ (txtR s n r).1.size = n := by
  obtain ⟨p, e⟩ := r
  unfold txtR at h ⊢
  by_cases h0 : e = 0
  · subst h0
    simp only [if_pos] at h ⊢
    by_cases h1 : p + n ≤ s.size
    · rw [if_pos h1]
      exact ⟨trivial, Nat.le_add_right _ _, h1, rfl, by rw [ByteArray.size_extract]; omega⟩
    · rw [if_neg h1] at h
      cases h
  · simp only [h0, if_false] at h
theorem txt_forth (b x c : ByteArray) : txtR (b ++ (x ++ c)) x.size ⟨b.size, 0⟩ = (x, ⟨(b ++ x).size, 0⟩) := by
  have hs : b.size + x.size ≤ (b ++ (x ++ c)).size := by rw [ByteArray.size_append, ByteArray.size_append]; omega
  have he : (b ++ (x ++ c)).extract b.size (b.size + x.size) = x := by
    apply ba_ext
    have hb : b.data.toList.length = b.size := by simp
    have hx : x.data.toList.length = x.size := by simp
    rw [list_extract, ByteArray.data_append, ByteArray.data_append, Array.toList_append, Array.toList_append, ← hb, ← hx, List.take_length_add_append, List.drop_left, List.take_left]
  unfold txtR
  rw [if_pos rfl, if_pos hs, he, ByteArray.size_append]
/-- A text behind its length. -/
def lenR (s : ByteArray) (r : RS) : ByteArray × RS := ((txtR s (numR s 4 r).1.toNat (numR s 4 r).2).1, (txtR s (numR s 4 r).1.toNat (numR s 4 r).2).2)
theorem back4 (n : Nat) (h : n < 4294967296) : backN (n : Int) 4 = n := by
  unfold backN
  rw [IntKind.wrap_i64]
  simp only [Nat.reduceMul, Int.reducePow]
  omega
theorem back1 (n : Nat) (h : n < 256) : backN (n : Int) 1 = n := by
  unfold backN
  rw [IntKind.wrap_i64]
  simp only [Nat.reduceMul, Int.reducePow]
  omega
theorem len_codec : Codec lenR (fun x => pN x.size 4 ++ x) (fun x => x.size < 4294967296) where
  back := fun s r h => by
    obtain ⟨a1, a2, a3, a4, a5⟩ := txt_back s _ _ h
    obtain ⟨b1, b2, b3, b4⟩ := (num_codec 4 (by decide)).back s r a1
    obtain ⟨n, hn, _⟩ := numR_nat s 4 (by decide) r
    refine ⟨b1, Nat.le_trans b2 a2, a3, ?_⟩
    have e : (((txtR s (numR s 4 r).1.toNat (numR s 4 r).2).1.size : Nat) : Int) = (numR s 4 r).1 := by rw [a5, hn]; rfl
    show s.extract r.pos (txtR s (numR s 4 r).1.toNat (numR s 4 r).2).2.pos = pN ((txtR s (numR s 4 r).1.toNat (numR s 4 r).2).1.size : Nat) 4 ++ (txtR s (numR s 4 r).1.toNat (numR s 4 r).2).1
    rw [e, ← b4, ← ext_app s b2 a2 a3, a4]
  forth := fun x hx b c => by
    have h1 := (num_codec 4 (by decide)).forth (x.size : Int) (back4 _ hx) b (x ++ c)
    have h2 := txt_forth (b ++ pN x.size 4) x c
    have e1 : b ++ (pN x.size 4 ++ x ++ c) = b ++ (pN x.size 4 ++ (x ++ c)) := by rw [app_assoc (pN _ _)]
    rw [app_assoc b] at h2
    show lenR (b ++ (pN x.size 4 ++ x ++ c)) ⟨b.size, 0⟩ = _
    rw [e1]
    unfold lenR
    rw [h1]
    simp only [Int.toNat_natCast]
    rw [h2, app_assoc]
theorem cel_codec : Codec celR cellP (fun c => cellB c = true) where
  back := fun s r h => by
    unfold celR at h ⊢
    simp only at h ⊢
    by_cases h0 : (numR s 1 r).2.err = 0
    rotate_left
    · rw [if_neg h0] at h
      exact absurd h h0
    obtain ⟨b1, b2, b3, b4⟩ := (num_codec 1 (by decide)).back s r h0
    obtain ⟨n, hn, hn2⟩ := numR_nat s 1 (by decide) r
    simp only [if_pos h0] at h ⊢
    by_cases h1 : (numR s 1 r).1 = 255
    · simp only [if_pos h1]
      refine ⟨b1, b2, b3, ?_⟩
      rw [b4, h1]
      rfl
    simp only [if_neg h1] at h ⊢
    by_cases h2 : 12 < (numR s 1 r).1
    · rw [if_pos h2] at h
      cases h
    simp only [if_neg h2] at h ⊢
    obtain ⟨a1, a2, a3, a4, a5⟩ := txt_back s _ _ h
    refine ⟨b1, Nat.le_trans b2 a2, a3, ?_⟩
    have e : (((txtR s (numR s 1 r).1.toNat (numR s 1 r).2).1.size : Nat) : Int) = (numR s 1 r).1 := by rw [a5, hn]; rfl
    unfold cellP
    rw [if_pos rfl]
    simp only
    rw [e, ← b4, ← ext_app s b2 a2 a3, a4]
  forth := fun x hx b c => by
    obtain ⟨st, d⟩ := x
    unfold cellB at hx
    simp only [decide_eq_true_eq] at hx
    cases st
    · obtain rfl : d = ⟨#[]⟩ := hx.2 rfl
      have h1 := (num_codec 1 (by decide)).forth 255 (by decide) b c
      show celR (b ++ (pN 255 1 ++ c)) ⟨b.size, 0⟩ = (noCell, ⟨(b ++ pN 255 1).size, 0⟩)
      unfold celR
      rw [h1]
      simp
    · have h1 := (num_codec 1 (by decide)).forth (d.size : Int) (back1 _ (by omega)) b (d ++ c)
      have h2 := txt_forth (b ++ pN d.size 1) d c
      have e1 : b ++ (pN d.size 1 ++ d ++ c) = b ++ (pN d.size 1 ++ (d ++ c)) := by rw [app_assoc (pN _ _)]
      rw [app_assoc b] at h2
      show celR (b ++ (pN d.size 1 ++ d ++ c)) ⟨b.size, 0⟩ = (⟨true, d⟩, ⟨(b ++ (pN d.size 1 ++ d)).size, 0⟩)
      rw [e1]
      unfold celR
      rw [h1]
      simp only [Int.toNat_natCast]
      rw [h2, app_assoc, if_pos trivial, if_neg (by omega), if_neg (by omega)]
end Go.Proofs.YtmlclccfmlcabaaDoor.op
