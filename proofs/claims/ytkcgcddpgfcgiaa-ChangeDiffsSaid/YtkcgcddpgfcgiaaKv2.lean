/- Applying differences in any order: counting. -/
import Derived.Test.YtkcgcddpgfcgiaaKt
namespace Go.Proofs.Ytkcgcddpgfcgiaa.kv2
open Go.ChangeShapes Go.WideShapes Go.ChangeAt Go.RowKit Go.Proofs.Ytkcgcddpgfcgiaa.cx Go.Proofs.Ytkcgcddpgfcgiaa.ra Go.Proofs.Ytkcgcddpgfcgiaa.rc Go.Proofs.Ytkcgcddpgfcgiaa.da Go.Proofs.Ytkcgcddpgfcgiaa.di Go.Proofs.Ytkcgcddpgfcgiaa.ea Go.Proofs.Ytkcgcddpgfcgiaa.eb Go.Proofs.Ytkcgcddpgfcgiaa.ec Go.Proofs.Ytkcgcddpgfcgiaa.ed Go.Proofs.Ytkcgcddpgfcgiaa.fb Go.Proofs.Ytkcgcddpgfcgiaa.ka Go.Proofs.Ytkcgcddpgfcgiaa.kb Go.Proofs.Ytkcgcddpgfcgiaa.kc Go.Proofs.Ytkcgcddpgfcgiaa.kd Go.Proofs.Ytkcgcddpgfcgiaa.ke Go.Proofs.Ytkcgcddpgfcgiaa.kf Go.Proofs.Ytkcgcddpgfcgiaa.kg Go.Proofs.Ytkcgcddpgfcgiaa.ki Go.Proofs.Ytkcgcddpgfcgiaa.kj Go.Proofs.Ytkcgcddpgfcgiaa.kk Go.Proofs.Ytkcgcddpgfcgiaa.km Go.Proofs.Ytkcgcddpgfcgiaa.kn Go.Proofs.Ytkcgcddpgfcgiaa.kp Go.Proofs.Ytkcgcddpgfcgiaa.kq Go.Proofs.Ytkcgcddpgfcgiaa.kr Go.Proofs.Ytkcgcddpgfcgiaa.ks Go.Proofs.Ytkcgcddpgfcgiaa.kt

/-- How many of the first n are chosen. -/
def cnt (f : Nat → Bool) : Nat → Nat
  | 0 => 0
  | n + 1 => cnt f n + (if f n = true then 1 else 0)
theorem cnt_le (f : Nat → Bool) : ∀ n, cnt f n ≤ n
  | 0 => Nat.le_refl _
  | n + 1 => by have := cnt_le f n; unfold cnt; split <;> omega
theorem cnt_all {f : Nat → Bool} : ∀ {n}, cnt f n = n → ∀ j, j < n → f j = true
  | 0, _, j, hj => by omega
  | n + 1, h, j, hj => by
    have hle := cnt_le f n
    unfold cnt at h
    cases hf : f n
    · rw [hf] at h; simp at h; omega
    · rw [hf] at h
      simp only [if_true] at h
      by_cases e : j = n
      · subst e; exact hf
      · exact cnt_all (n := n) (by omega) j (by omega)
theorem cnt_full {f : Nat → Bool} : ∀ {n}, (∀ j, j < n → f j = true) → cnt f n = n
  | 0, _ => rfl
  | n + 1, h => by unfold cnt; rw [cnt_full (n := n) fun j hj => h j (by omega), h n (by omega)]; rfl
theorem cnt_congr {f g : Nat → Bool} : ∀ {n}, (∀ j, j < n → f j = g j) → cnt f n = cnt g n
  | 0, _ => rfl
  | n + 1, h => by unfold cnt; rw [cnt_congr (n := n) fun j hj => h j (by omega), h n (by omega)]
theorem cnt_put {f g : Nat → Bool} {k : Nat} (hf : f k = false) (hg : g k = true) : ∀ {n}, k < n → (∀ j, j < n → j ≠ k → g j = f j) → cnt g n = cnt f n + 1
  | 0, hk, _ => by omega
  | n + 1, hk, h => by
    by_cases e : k = n
    · subst e
      unfold cnt
      rw [hf, hg, cnt_congr (f := g) (g := f) fun j hj => h j (by omega) (by omega)]
      simp
    · unfold cnt
      rw [cnt_put hf hg (n := n) (by omega) fun j hj hne => h j (by omega) hne, h n (by omega) (by omega)]
      omega
theorem cnt_zero : ∀ n, cnt (fun _ => false) n = 0
  | 0 => rfl
  | n + 1 => by unfold cnt; rw [cnt_zero n]; rfl
/-- The changes at the first n slots: each is one of a slot below n, whose cells differ; two of one slot are one. -/
theorem diffN_mem {a b : Pg} : ∀ {n : Nat} {c : Chg}, c ∈ diffN a b n → ∃ s, s < n ∧ c = ⟨a.id, (s : Int), a.cell s, b.cell s⟩ ∧ sameC (a.cell s) (b.cell s) = false
  | 0, c, h => by simp [diffN] at h
  | n + 1, c, h => by
    cases hs : sameC (a.cell n) (b.cell n)
    · rw [diffN_other hs, List.mem_append] at h
      rcases h with h | h
      · obtain ⟨s, h1, h2, h3⟩ := diffN_mem h
        exact ⟨s, by omega, h2, h3⟩
      · simp only [List.mem_cons, List.not_mem_nil, or_false] at h
        exact ⟨n, by omega, h, hs⟩
    · rw [diffN_same hs] at h
      obtain ⟨s, h1, h2, h3⟩ := diffN_mem h
      exact ⟨s, by omega, h2, h3⟩
theorem diffN_has {a b : Pg} {s : Nat} (hs : sameC (a.cell s) (b.cell s) = false) : ∀ {n}, s < n → (⟨a.id, (s : Int), a.cell s, b.cell s⟩ : Chg) ∈ diffN a b n
  | 0, h => by omega
  | n + 1, h => by
    by_cases e : s = n
    · subst e
      rw [diffN_other hs, List.mem_append]
      exact .inr (by simp)
    · have ih := diffN_has hs (n := n) (by omega)
      cases h2 : sameC (a.cell n) (b.cell n)
      · rw [diffN_other h2, List.mem_append]; exact .inl ih
      · rw [diffN_same h2]; exact ih
theorem diffN_one {a b : Pg} : ∀ {n i j : Nat} {c d : Chg}, (diffN a b n)[i]? = some c → (diffN a b n)[j]? = some d → c.slot = d.slot → i = j
  | 0, i, j, c, d, h, _, _ => by simp [diffN] at h
  | n + 1, i, j, c, d, hi, hj, hs => by
    cases h2 : sameC (a.cell n) (b.cell n)
    · rw [diffN_other h2, List.getElem?_append] at hi hj
      split at hi <;> split at hj
      · exact diffN_one hi hj hs
      · exfalso
        obtain ⟨s, h3, rfl, _⟩ := diffN_mem (List.mem_of_getElem? hi)
        have h4 := List.mem_of_getElem? hj
        simp only [List.mem_cons, List.not_mem_nil, or_false] at h4
        subst h4
        simp only at hs
        omega
      · exfalso
        obtain ⟨s, h3, rfl, _⟩ := diffN_mem (List.mem_of_getElem? hj)
        have h4 := List.mem_of_getElem? hi
        simp only [List.mem_cons, List.not_mem_nil, or_false] at h4
        subst h4
        simp only at hs
        omega
      · have e1 : i - (diffN a b n).length = 0 := by
          rcases Nat.eq_zero_or_pos (i - (diffN a b n).length) with h | h
          · exact h
          · rw [List.getElem?_eq_none (by simp; omega)] at hi; cases hi
        have e2 : j - (diffN a b n).length = 0 := by
          rcases Nat.eq_zero_or_pos (j - (diffN a b n).length) with h | h
          · exact h
          · rw [List.getElem?_eq_none (by simp; omega)] at hj; cases hj
        omega
    · rw [diffN_same h2] at hi hj
      exact diffN_one hi hj hs
def slotAt (ds : List Chg) (j : Nat) : Nat := ((ds[j]?).map slotN).getD 0
/-- r is p, with the cells of the slots of A out of q. -/
def MixOf (p q r : Pg) (A : Nat → Bool) : Prop := r.id = p.id ∧ r.lsn = p.lsn ∧ ∀ s, s < 16 → r.cell s = if A s = true then q.cell s else p.cell s
theorem mix_none (p q : Pg) : MixOf p q p (fun _ => false) := ⟨rfl, rfl, fun s _ => (if_neg (by simp)).symm⟩
theorem slot_facts {p q : Pg} {ds : List Chg} (hds : diffN p q 16 = ds) {j : Nat} (hj : j < ds.length) : ∃ s : Nat, s < 16 ∧ ds[j]? = some ⟨p.id, (s : Int), p.cell s, q.cell s⟩ ∧ slotAt ds j = s ∧ sameC (p.cell s) (q.cell s) = false := by
  have h := List.getElem?_eq_getElem hj
  have hm : ds[j] ∈ diffN p q 16 := by rw [hds]; exact List.getElem_mem _
  obtain ⟨s, h1, h2, h3⟩ := diffN_mem hm
  rw [h2] at h
  refine ⟨s, h1, h, ?_, h3⟩
  unfold slotAt
  rw [h]
  simp [slotN]
theorem slot_other {p q : Pg} {ds : List Chg} (hds : diffN p q 16 = ds) {i j : Nat} (hi : i < ds.length) (hj : j < ds.length) (hne : i ≠ j) : slotAt ds i ≠ slotAt ds j := by
  obtain ⟨s, _, h1, h2, _⟩ := slot_facts hds hi
  obtain ⟨t, _, h3, h4, _⟩ := slot_facts hds hj
  rw [h2, h4]
  rintro rfl
  subst hds
  exact hne (diffN_one h1 h3 rfl)
theorem mix_put {p q r : Pg} {A : Nat → Bool} (h : MixOf p q r A) (s : Nat) : MixOf p q (putCell r s (q.cell s)) (fun t => A t || t == s) := by
  refine ⟨h.1, h.2.1, fun t ht => ?_⟩
  show (if t = s then q.cell s else r.cell t) = _
  by_cases e : t = s
  · subst e
    rw [if_pos rfl, if_pos (by simp)]
  · rw [if_neg e, h.2.2 t ht]
    have : (A t || t == s) = A t := by simp [e]
    show _ = if (A t || t == s) = true then q.cell t else p.cell t
    rw [this]
theorem cnt_mix {p q : Pg} {ds : List Chg} (hds : diffN p q 16 = ds) {n kk s ii : Nat} (hn : ds.length = n) (hk : kk < n) (hs : slotAt ds kk = s) {A : Nat → Bool} (hA : A s = false) (h : cnt (fun j => A (slotAt ds j)) n = ii) : cnt (fun j => A (slotAt ds j) || slotAt ds j == s) n = ii + 1 := by
  rw [← h]
  refine cnt_put (k := kk) (by rw [hs]; exact hA) (by simp [hs]) hk fun j hj hne => ?_
  have := slot_other hds (i := j) (j := kk) (by omega) (by omega) hne
  rw [hs] at this
  simp [this]
theorem ring_all {n k0 : Nat} (hk : k0 < n) {P : Nat → Prop} (h : ∀ t, t < n → P ((k0 + t) % n)) : ∀ j, j < n → P j := fun j hj => by
  rcases Nat.lt_or_ge j k0 with h1 | h1
  · have := h (j + n - k0) (by omega)
    rwa [show k0 + (j + n - k0) = j + n by omega, Nat.add_mod_right, Nat.mod_eq_of_lt hj] at this
  · have := h (j - k0) (by omega)
    rwa [show k0 + (j - k0) = j by omega, Nat.mod_eq_of_lt hj] at this
theorem ring_step {n k0 nn kk : Nat} (h : kk = (k0 + nn) % n) : (kk + 1) % n = (k0 + (nn + 1)) % n := by
  rw [h, Nat.mod_add_mod, Nat.add_assoc]
theorem ring_int (kk n : Nat) : ((kk : Int) + 1) % (n : Int) = (((kk + 1) % n : Nat) : Int) := by
  rw [show (kk : Int) + 1 = ((kk + 1 : Nat) : Int) by omega]
  exact (Int.natCast_emod _ _).symm
theorem mix_all {p q r : Pg} {A : Nat → Bool} {ds : List Chg} {n : Nat} (hds : diffN p q 16 = ds) (h : MixOf p q r A) (hn : ds.length = n) (hall : ∀ j, j < n → A (slotAt ds j) = true) : sameAll r q = true := by
  refine sameAll_iff.2 fun s hs => ?_
  have hr := h.2.2 s hs
  cases hd : sameC (p.cell s) (q.cell s)
  · have hm := diffN_has hd hs
    rw [hds] at hm
    obtain ⟨j, hj, hjx⟩ := List.getElem_of_mem hm
    have ha := hall j (by omega)
    have hsl : slotAt ds j = s := by
      unfold slotAt
      rw [List.getElem?_eq_getElem hj, hjx]
      simp [slotN]
    rw [hsl] at ha
    rw [hr, if_pos ha]
  · have := sameC_iff.1 hd
    rw [hr, this]
    split <;> rfl
end Go.Proofs.Ytkcgcddpgfcgiaa.kv2
