/- What a write leaves, as data: which devices are valid, and stay so. -/
import Derived.Test.YtikpchhhenonaaaLr
namespace Go.Proofs.Ytikpchhhenonaaa.ls
open Go.ChangeShapes Go.WideShapes Go.ChangeAt Go.RowKit Go.Proofs.Ytikpchhhenonaaa.cx Go.Proofs.Ytikpchhhenonaaa.ra Go.Proofs.Ytikpchhhenonaaa.la Go.Proofs.Ytikpchhhenonaaa.lb Go.Proofs.Ytikpchhhenonaaa.lc Go.Proofs.Ytikpchhhenonaaa.ld Go.Proofs.Ytikpchhhenonaaa.le Go.Proofs.Ytikpchhhenonaaa.lf Go.Proofs.Ytikpchhhenonaaa.lg Go.Proofs.Ytikpchhhenonaaa.lh Go.Proofs.Ytikpchhhenonaaa.li Go.Proofs.Ytikpchhhenonaaa.lj Go.Proofs.Ytikpchhhenonaaa.lk Go.Proofs.Ytikpchhhenonaaa.ll Go.Proofs.Ytikpchhhenonaaa.lm Go.Proofs.Ytikpchhhenonaaa.ln Go.Proofs.Ytikpchhhenonaaa.lo Go.Proofs.Ytikpchhhenonaaa.lp Go.Proofs.Ytikpchhhenonaaa.lq Go.Proofs.Ytikpchhhenonaaa.lr

theorem okUnr_asc (m : Nat) : ∀ (l : List Int) (least : Int), okUnr m least l = true → Asc l ∧ (∀ x ∈ l, least ≤ x ∧ 0 ≤ x ∧ x < (m : Int)) ∧ (0 ≤ least → (l.length : Int) ≤ max 0 ((m : Int) - least))
  | [], least, _ => ⟨List.Pairwise.nil, fun _ h => by (cases h), fun _ => by simp; omega⟩
  | x :: r, least, h => by
    unfold okUnr at h
    simp only [Bool.and_eq_true, decide_eq_true_eq] at h
    obtain ⟨⟨h1, h2⟩, h3⟩ := h
    have h2 := of_decide_eq_true h2
    obtain ⟨i1, i2, i3⟩ := okUnr_asc m r (x + 1) h3
    refine ⟨List.Pairwise.cons (fun y hy => by have := i2 y hy; omega) i1, fun y hy => ?_, fun h0 => ?_⟩
    · rcases List.mem_cons.1 hy with rfl | hy
      · exact ⟨h1, h2.1, h2.2⟩
      · have := i2 y hy
        omega
    · have := i3 (by omega)
      simp only [List.length_cons]
      omega
/-- What stays of a device while a write goes on. -/
structure Goes (m : Nat) (d : Dev) : Prop where
  len : d.pages.length = m
  size : ∀ x ∈ d.pages, x.size = 256
  asc : Asc d.unr
theorem mem_set {α : Type} {l : List α} {k : Nat} {x y : α} (h : y ∈ l.set k x) : y ∈ l ∨ y = x := List.mem_or_eq_of_mem_set h
theorem getD_size {l : List ByteArray} (h : ∀ x ∈ l, x.size = 256) {k : Nat} (hk : k < l.length) : (l.getD k ByteArray.empty).size = 256 := by
  rw [List.getD, List.getElem?_eq_getElem hk]
  exact h _ (List.getElem_mem hk)
theorem mixS_size {s old : ByteArray} {n : Nat} (hs : s.size = 256) (ho : old.size = 256) (hn : n ≤ 256) : (mixS s old n).size = 256 := by
  unfold mixS
  rw [ByteArray.size_append, ByteArray.size_extract, ByteArray.size_extract, hs, ho]
  omega
theorem goes_owr {m : Nat} {d : Dev} {k n : Nat} {s : ByteArray} (h : Goes m d) (hk : k < m) (hs : s.size = 256) (hn : n ≤ 256) : Goes m (owrD d k s n) := by
  refine ⟨by rw [← h.len]; exact List.length_set .., fun x hx => ?_, List.Pairwise.filter _ h.asc⟩
  rcases mem_set hx with h1 | h1
  · exact h.size x h1
  · rw [h1]
    exact mixS_size hs (getD_size h.size (by rw [h.len]; exact hk)) hn
theorem owr_unr_len (d : Dev) (k n : Nat) (s : ByteArray) : (owrD d k s n).unr.length ≤ d.unr.length := List.length_filter_le ..
theorem goes_carry {m : Nat} {d : Dev} {k : Nat} {s : ByteArray} {wh : What} (h : Goes m d) (hk : k < m) (hs : s.size = 256) (hf : fateB m wh) : Goes m (carryD d k s wh) := by
  cases wh with
  | done => exact goes_owr h hk hs (Nat.le_refl _)
  | lost => exact h
  | misdirected t => exact goes_owr h (by have := hf.1; have := hf.2; omega) hs (Nat.le_refl _)
  | torn n => exact goes_owr h hk hs (by have := hf.1; have := hf.2; omega)
theorem carry_unr_len (d : Dev) (k : Nat) (s : ByteArray) (wh : What) : (carryD d k s wh).unr.length ≤ d.unr.length := by
  cases wh with
  | lost => exact Nat.le_refl _
  | _ => exact owr_unr_len ..
theorem asc_rank {l : List Int} (x : Int) (h : Asc l) : (∀ y ∈ l.take (rank l x), y < x) ∧ (∀ y ∈ l.drop (rank l x), x ≤ y) := by
  induction l with
  | nil => exact ⟨fun y hy => by simp at hy, fun y hy => by simp at hy⟩
  | cons a r ih =>
    obtain ⟨h1, h2⟩ := List.pairwise_cons.1 h
    obtain ⟨i1, i2⟩ := ih h2
    by_cases ha : a < x
    · have hr : rank (a :: r) x = rank r x + 1 := by unfold rank; rw [List.countP_cons_of_pos (by simpa using ha)]
      rw [hr]
      refine ⟨fun y hy => ?_, fun y hy => i2 y (by simpa using hy)⟩
      rw [List.take_succ_cons] at hy
      rcases List.mem_cons.1 hy with rfl | hy
      · exact ha
      · exact i1 y hy
    · have hr : rank (a :: r) x = 0 := by
        unfold rank
        rw [List.countP_eq_zero]
        intro y hy
        rcases List.mem_cons.1 hy with rfl | hy
        · simpa using ha
        · have := h1 y hy
          simp only [decide_eq_true_eq]
          omega
      rw [hr]
      refine ⟨fun y hy => by simp at hy, fun y hy => ?_⟩
      rcases List.mem_cons.1 (by simpa using hy) with rfl | hy
      · omega
      · have := h1 y hy
        omega
theorem asc_hide {l : List Int} (x : Int) (h : Asc l) : Asc (hideL l x) := by
  unfold hideL
  split
  · exact h
  · rename_i hc
    obtain ⟨h1, h2⟩ := asc_rank x h
    unfold insL
    have h3 := h
    unfold Asc at h3
    rw [← List.take_append_drop (rank l x) l, List.pairwise_append] at h3
    unfold Asc
    rw [List.pairwise_append, List.pairwise_cons]
    refine ⟨h3.1, ⟨fun y hy => ?_, h3.2.1⟩, fun y hy z hz => ?_⟩
    · have hne : y ≠ x := fun e => hc (by rw [List.contains_iff_mem, ← e]; exact List.mem_of_mem_drop hy)
      have := h2 y hy
      omega
    · rcases List.mem_cons.1 hz with rfl | hz
      · exact h1 y hy
      · exact h3.2.2 y hy z hz
theorem hide_len (l : List Int) (x : Int) : (hideL l x).length ≤ l.length + 1 := by
  unfold hideL
  split
  · omega
  · rw [insL_length _ _ _ (rank_le _ _)]; exact Nat.le_refl _
theorem goes_harm {m : Nat} {d : Dev} {f : Flt} (h : Goes m d) (hp : 0 ≤ f.page ∧ f.page < (m : Int)) : Goes m (harmD d f) := by
  unfold harmD
  split
  · refine ⟨by rw [← h.len]; exact List.length_set .., fun x hx => ?_, h.asc⟩
    rcases mem_set hx with h1 | h1
    · exact h.size x h1
    · rw [h1]
      exact rotS_size _ _ _ (getD_size h.size (by rw [h.len]; omega))
  · split
    · exact ⟨h.len, h.size, asc_hide _ h.asc⟩
    · split
      · exact ⟨h.len, h.size, h.asc⟩
      · exact h
theorem harm_unr_len (d : Dev) (f : Flt) : (harmD d f).unr.length ≤ d.unr.length + 1 := by
  unfold harmD
  split
  · exact Nat.le_succ _
  · split
    · exact hide_len ..
    · split
      · exact Nat.le_succ _
      · exact Nat.le_succ _
theorem goes_harms {m : Nat} : ∀ (l : List Flt) {d : Dev}, Goes m d → (∀ f ∈ l, 0 ≤ f.page ∧ f.page < (m : Int)) → Goes m (l.foldl harmD d) ∧ (l.foldl harmD d).unr.length ≤ d.unr.length + l.length
  | [], _, h, _ => ⟨h, Nat.le_refl _⟩
  | f :: r, d, h, hp => by
    have i := goes_harms r (goes_harm h (hp f (List.mem_cons_self ..))) (fun g hg => hp g (List.mem_cons_of_mem _ hg))
    refine ⟨i.1, ?_⟩
    have := harm_unr_len d f
    have := i.2
    simp only [List.foldl_cons, List.length_cons]
    omega
/-- The device with one write more, and the faults of this write gone. -/
def countD (d : Dev) : Dev := { d with writes := d.writes + 1 }
def writeD (d : Dev) (page : Int) (s : ByteArray) : Dev := (dueF (countD d)).foldl harmD (carryD { countD d with faults := restF (countD d) } page.toNat s (becomeF (dueF (countD d))))
theorem okFault_in {d : Dev} {f : Flt} (h : okFault d f = true) : (d.writes < f.at' ∧ f.at' ≤ 1099511627776) ∧ (0 ≤ f.page ∧ f.page < d.pages.length) ∧ (0 ≤ f.target ∧ f.target < d.pages.length) ∧ 0 ≤ f.byte ∧ f.byte < 256 := by
  unfold okFault at h
  simp only [Bool.and_eq_true, decide_eq_true_eq] at h
  obtain ⟨h1, h2, h3, h4, h5, h6, _⟩ := h
  exact ⟨⟨h1, h2⟩, of_decide_eq_true h3, of_decide_eq_true h4, h5, h6⟩
theorem fate_of {m : Nat} : ∀ (l : List Flt), (∀ f ∈ l, (0 ≤ f.target ∧ f.target < (m : Int)) ∧ 0 ≤ f.byte ∧ f.byte < 256) → fateB m (becomeF l)
  | [], _ => trivial
  | f :: r, h => by
    have hf := h f (List.mem_cons_self ..)
    have ih := fate_of r (fun g hg => h g (List.mem_cons_of_mem _ hg))
    unfold becomeF whatF
    split
    · trivial
    · split
      · exact hf.1
      · split
        · exact ⟨hf.2.1, by omega⟩
        · exact ih
structure IsValid (d : Dev) : Prop where
  pages : (1 ≤ d.pages.length ∧ d.pages.length ≤ 64) ∧ ∀ s ∈ d.pages, s.size = 256
  writes : 0 ≤ d.writes ∧ d.writes ≤ 1099511627776
  unr : Asc d.unr ∧ ∀ x ∈ d.unr, 0 ≤ x ∧ x < (d.pages.length : Int)
  unrLen : d.unr.length ≤ 64
  faults : d.faults.length ≤ 64 ∧ ∀ f ∈ d.faults, okFault d f = true
theorem valid_is {d : Dev} (h : validD d = true) : IsValid d := by
  unfold validD at h
  simp only [Bool.and_eq_true] at h
  obtain ⟨h1, h2, h3, h4⟩ := h
  have p := okPages_iff.1 h1
  obtain ⟨u1, u2, u3⟩ := okUnr_asc _ _ _ h3
  unfold okFaults at h4
  simp only [Bool.and_eq_true, decide_eq_true_eq, List.all_eq_true] at h4
  exact ⟨p, of_decide_eq_true h2, ⟨u1, fun x hx => (u2 x hx).2⟩, by have := u3 (Int.le_refl 0); have := p.1.2; omega, h4⟩
theorem IsValid.fits {d : Dev} (h : IsValid d) : FitsD d := fun s hs => by have := h.pages.2 s hs; omega
theorem IsValid.goes {d : Dev} (h : IsValid d) : Goes d.pages.length d := ⟨rfl, h.pages.2, h.unr.1⟩
theorem due_mem {d : Dev} {f : Flt} (h : f ∈ dueF d) : f ∈ d.faults := (List.mem_filter.1 h).1
theorem due_len (d : Dev) : (dueF d).length ≤ d.faults.length := List.length_filter_le ..
theorem write_in {d : Dev} {page : Int} {s : ByteArray} (h : writeE d page s = 0) : accessE d page = 0 ∧ s.size = 256 ∧ d.writes ≠ 1099511627776 := by
  unfold writeE at h
  by_cases h1 : accessE d page = 0
  · rw [if_pos h1] at h
    by_cases h2 : s.size = 256
    · rw [if_pos h2] at h
      by_cases h3 : d.writes = 1099511627776
      · rw [if_pos h3] at h; cases h
      · exact ⟨h1, h2, h3⟩
    · rw [if_neg h2] at h; cases h
  · rw [if_neg h1] at h; exact absurd h h1
theorem _root_.Go.Proofs.Ytikpchhhenonaaa.ra.RowAt.same {b : Nat} {vs : List Value} {w w' : World} (h : RowAt b vs w) (hh : w'.heap[b]? = w.heap[b]?) : RowAt b vs w' := by
  refine ⟨?_, fun i v hi => (World.cell?_of_block (w := w) (a := ⟨b, i, none⟩) hh).trans (h.cells i v hi), fun i => (World.frozen?_of_block (w := w) (a := ⟨b, i, none⟩) hh).trans (h.free i)⟩
  rcases Nat.lt_or_ge b w'.heap.size with h1 | h1
  · exact h1
  · rw [Array.getElem?_eq_none h1, Array.getElem?_eq_getElem h.lt] at hh; cases hh
end Go.Proofs.Ytikpchhhenonaaa.ls
