/- Logs as plain bytes: the head; what is opened. -/
import Derived.Test.YtmlclccfmlcabaaDoorQb
namespace Go.Proofs.YtmlclccfmlcabaaDoor.qc
open Go.ChangeShapes Go.WideShapes Go.ChangeAt Go.RowKit Go.Proofs.YtmlclccfmlcabaaDoor.cm Go.Proofs.YtmlclccfmlcabaaDoor.cp Go.Proofs.YtmlclccfmlcabaaDoor.cg Go.Proofs.YtmlclccfmlcabaaDoor.ch Go.Proofs.YtmlclccfmlcabaaDoor.ck Go.Proofs.YtmlclccfmlcabaaDoor.oa Go.Proofs.YtmlclccfmlcabaaDoor.od Go.Proofs.YtmlclccfmlcabaaDoor.oh Go.Proofs.YtmlclccfmlcabaaDoor.oj Go.Proofs.YtmlclccfmlcabaaDoor.ok Go.Proofs.YtmlclccfmlcabaaDoor.ol Go.Proofs.YtmlclccfmlcabaaDoor.op Go.Proofs.YtmlclccfmlcabaaDoor.oq Go.Proofs.YtmlclccfmlcabaaDoor.qa Go.Proofs.YtmlclccfmlcabaaDoor.qb

/-- "PMLG". -/
def magic : ByteArray := ⟨#[80, 77, 76, 71]⟩
def headP (first : Int) : ByteArray := magic ++ pN first 8
def headF (first : Int) : ByteArray := frameF (headP first)
theorem headP_size (first : Int) : (headP first).size = 12 := by unfold headP; rw [ByteArray.size_append, pN_size]; rfl
theorem headF_size (first : Int) : (headF first).size = 20 := by unfold headF; rw [frameF_size, headP_size]
theorem nil_size : (⟨#[]⟩ : ByteArray).size = 0 := rfl
/-- What bytes are opened as: the first number and at most f entries. -/
def openO (f : Nat) (s : ByteArray) : Option (Int × List Ent) :=
  match unfO s 0 with
  | none => none
  | some (p, a) => if p.size = 12 ∧ p.extract 0 4 = magic ∧ 1 ≤ getN p 4 8 ∧ getN p 4 8 ≤ 1099511627776 then some (getN p 4 8, readL s f a (getN p 4 8)) else none
theorem head_read {first : Int} (h1 : 1 ≤ first) (h2 : first ≤ 1099511627776) : (headP first).extract 0 4 = magic ∧ getN (headP first) 4 8 = first := by
  constructor
  · have := ext_mid ⟨#[]⟩ magic (pN first 8)
    rw [nil_app] at this
    exact this
  · have := getN_put magic ⟨#[]⟩ first 8 (by decide)
    unfold putS at this
    rw [app_nil] at this
    have h3 : getN (headP first) 4 8 = backN first 8 := this
    rw [h3]
    exact back8 (by omega) h2
theorem openO_of {f : Nat} {s p : ByteArray} {a : Nat} {n : Int} (h : unfO s 0 = some (p, a)) (hn : getN p 4 8 = n) (hp : p.size = 12) (hm : p.extract 0 4 = magic) (h1 : 1 ≤ n) (h2 : n ≤ 1099511627776) : openO f s = some (n, readL s f a n) := by
  subst hn
  unfold openO
  rw [h]
  exact if_pos ⟨hp, hm, h1, h2⟩
theorem openO_no {f : Nat} {s p : ByteArray} {a : Nat} (h : unfO s 0 = some (p, a)) (hp : p.size ≠ 12) : openO f s = none := by
  unfold openO
  rw [h]
  exact if_neg fun hh => hp hh.1
theorem openO_none {f : Nat} {s : ByteArray} (h : unfO s 0 = none) : openO f s = none := by
  unfold openO
  rw [h]
theorem open_head (f : Nat) {first : Int} (h1 : 1 ≤ first) (h2 : first ≤ 1099511627776) (c : ByteArray) : openO f (headF first ++ c) = some (first, readL (headF first ++ c) f 20 first) := by
  have hu := unfO_frame ⟨#[]⟩ (headP first) c (by rw [headP_size]; decide)
  rw [nil_app, headP_size, nil_size, Nat.zero_add, show 8 + 12 = 20 from rfl] at hu
  change unfO (headF first ++ c) 0 = some (headP first, 20) at hu
  obtain ⟨e1, e2⟩ := head_read h1 h2
  exact openO_of hu e2 (headP_size _) e1 h1 h2
/-- Behind the head and some whole right entries, a beginning of the frames of others: what is opened are the former, and a beginning of the others. -/
theorem open_crash (f : Nat) {first : Int} (h1 : 1 ≤ first) (h2 : first ≤ 1099511627776) (l m : List Ent) (hr : Row (l ++ m) first) (hn : (l ++ m).length ≤ f) (k : Nat) (hk : k ≤ (logF m).size) :
    ∃ j, j ≤ m.length ∧ openO f (headF first ++ (logF l ++ (logF m).extract 0 k)) = some (first, l ++ m.take j) := by
  rw [List.length_append] at hn
  obtain ⟨r1, r2⟩ := (row_append l m first).1 hr
  have e := readL_row ((logF m).extract 0 k) l first (headF first) f r1 (by omega)
  have hz : (headF first ++ logF l).size = 20 + (logF l).size := by rw [ByteArray.size_append, headF_size]
  obtain ⟨j, hj, e2⟩ := readL_pre (headF first ++ logF l) m (first + l.length) k (f - l.length) r2 (by omega) hk
  rw [hz, app_assoc] at e2
  rw [headF_size, e2] at e
  refine ⟨j, hj, ?_⟩
  rw [open_head f h1 h2, e]
theorem open_bytes (f : Nat) {first : Int} (h1 : 1 ≤ first) (h2 : first ≤ 1099511627776) (l : List Ent) (hr : Row l first) (hn : l.length ≤ f) : openO f (headF first ++ logF l) = some (first, l) := by
  obtain ⟨j, hj, e⟩ := open_crash f h1 h2 l [] (by rw [List.append_nil]; exact hr) (by rw [List.append_nil]; exact hn) 0 (Nat.zero_le _)
  have hz : (logF []).extract 0 0 = ⟨#[]⟩ := ext_nil _ _
  rw [hz, app_nil] at e
  rw [e]
  simp
/-- A byte of the head is changed: nothing is opened. -/
theorem open_head_set (f : Nat) (first : Int) (c : ByteArray) (j : Nat) (hj : j < 20) (x : UInt8) (hx : x ≠ (headF first).data.toList.getD j 0) : openO f (setB (headF first) j x ++ c) = none := by
  have hs := unfO_set ⟨#[]⟩ (headP first) c (by rw [headP_size]; decide) j (by have := headF_size first; unfold headF at this; omega) x hx
  rw [nil_app, nil_size] at hs
  rcases hs with h | ⟨n', h1, h2, h3⟩
  · exact openO_none h
  · refine openO_no h3 ?_
    rw [ByteArray.size_extract]
    rw [headP_size] at h1
    omega
/-- A byte of the entries is changed: what is opened are the entries ahead of the changed one. -/
theorem open_damaged (f : Nat) {first : Int} (h1 : 1 ≤ first) (h2 : first ≤ 1099511627776) (l : List Ent) (hr : Row l first) (hn : l.length ≤ f) (k : Nat) (hk : k < (logF l).size) (x : UInt8) (hx : x ≠ (logF l).data.toList.getD k 0) :
    ∃ m, m < l.length ∧ openO f (headF first ++ setB (logF l) k x) = some (first, l.take m) ∧ (logF (l.take m)).size ≤ k ∧ k < (logF (l.take (m + 1))).size := by
  obtain ⟨m, hm, e, a, b⟩ := readL_damaged (headF first) l first f k x hr hn hk hx
  refine ⟨m, hm, ?_, a, b⟩
  rw [open_head f h1 h2]
  rw [headF_size] at e
  rw [e]
/-- Whatever is read are right entries with numbers in order, at most f. -/
theorem readL_right (s : ByteArray) : ∀ (f a : Nat) (n : Int), Row (readL s f a n) n ∧ (readL s f a n).length ≤ f
  | 0, _, _ => ⟨trivial, Nat.le_refl _⟩
  | f + 1, a, n => by
    rw [readL]
    cases hu : unfO s a with
    | none => exact ⟨trivial, Nat.zero_le _⟩
    | some pa =>
      obtain ⟨p, a'⟩ := pa
      simp only
      split
      · rename_i h
        obtain ⟨i1, i2⟩ := readL_right s f a' (n + 1)
        exact ⟨⟨(decR_back h.1).1, h.2, i1⟩, by simpa using i2⟩
      · exact ⟨trivial, Nat.zero_le _⟩
theorem open_right {f : Nat} {s : ByteArray} {first : Int} {l : List Ent} (h : openO f s = some (first, l)) : 1 ≤ first ∧ first ≤ 1099511627776 ∧ Row l first ∧ l.length ≤ f := by
  unfold openO at h
  cases hu : unfO s 0 with
  | none => rw [hu] at h; cases h
  | some pa =>
    obtain ⟨p, a⟩ := pa
    rw [hu] at h
    simp only at h
    split at h
    · rename_i hc
      injection h with h
      injection h with h3 h4
      subst h3
      subst h4
      obtain ⟨i1, i2⟩ := readL_right s f a (getN p 4 8)
      exact ⟨hc.2.2.1, hc.2.2.2, i1, i2⟩
    · cases h
end Go.Proofs.YtmlclccfmlcabaaDoor.qc
