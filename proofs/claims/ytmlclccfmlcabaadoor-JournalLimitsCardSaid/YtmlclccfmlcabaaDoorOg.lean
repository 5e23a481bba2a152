/- Shape in general; Valid of the reference, which is that of the program. -/
import Derived.Test.YtmlclccfmlcabaaDoorOe
import Derived.Test.YtmlclccfmlcabaaDoorOf
namespace Go.Proofs.YtmlclccfmlcabaaDoor.og
open Go.ChangeShapes Go.WideShapes Go.ChangeAt Go.RowKit Go.Proofs.YtmlclccfmlcabaaDoor.cx Go.Proofs.YtmlclccfmlcabaaDoor.ra Go.Proofs.YtmlclccfmlcabaaDoor.rb Go.Proofs.YtmlclccfmlcabaaDoor.rc Go.Proofs.YtmlclccfmlcabaaDoor.da Go.Proofs.YtmlclccfmlcabaaDoor.ea Go.Proofs.YtmlclccfmlcabaaDoor.eb Go.Proofs.YtmlclccfmlcabaaDoor.ed Go.Proofs.YtmlclccfmlcabaaDoor.fb Go.Proofs.YtmlclccfmlcabaaDoor.ka Go.Proofs.YtmlclccfmlcabaaDoor.kb Go.Proofs.YtmlclccfmlcabaaDoor.kg Go.Proofs.YtmlclccfmlcabaaDoor.kj Go.Proofs.YtmlclccfmlcabaaDoor.oa Go.Proofs.YtmlclccfmlcabaaDoor.os Go.Proofs.YtmlclccfmlcabaaDoor.ob Go.Proofs.YtmlclccfmlcabaaDoor.oc Go.Proofs.YtmlclccfmlcabaaDoor.od Go.Proofs.YtmlclccfmlcabaaDoor.oe Go.Proofs.YtmlclccfmlcabaaDoor.of

def shapeD (e : Ent) : Ent :=
  if e.kind = 1 then ⟨e.lsn, e.kind, e.tx, e.prevTx, e.prevPage, 0, e.change, ⟨#[]⟩⟩
  else if e.kind = 2 then ⟨e.lsn, e.kind, e.tx, e.prevTx, e.prevPage, e.ref, e.change, ⟨#[]⟩⟩
  else if e.kind = 3 ∨ e.kind = 4 ∨ e.kind = 5 then ⟨e.lsn, e.kind, e.tx, e.prevTx, 0, 0, chg0, ⟨#[]⟩⟩
  else if e.kind = 7 then ⟨e.lsn, e.kind, 0, 0, 0, e.ref, ⟨e.change.page, 0, noCell, noCell⟩, ⟨#[]⟩⟩
  else if e.kind = 6 ∨ e.kind = 8 then ⟨e.lsn, e.kind, 0, 0, 0, 0, chg0, e.blob⟩
  else ⟨e.lsn, e.kind, 0, 0, 0, 0, chg0, ⟨#[]⟩⟩
def shapeB (e : Ent) : Bool :=
  if e.kind = 1 then validH e.change && txB e.tx
  else if e.kind = 2 then validH e.change && (decide (0 < e.prevTx) && (decide (1 ≤ e.ref) && (decide (e.ref ≤ e.prevTx) && txB e.tx)))
  else if e.kind = 3 ∨ e.kind = 4 ∨ e.kind = 5 then txB e.tx && decide (0 < e.prevTx)
  else if e.kind = 7 then decide (0 ≤ e.change.page) && decide (e.change.page < 64)
  else if e.kind = 6 ∨ e.kind = 8 then decide ((e.blob.size : Int) ≤ 8192)
  else false
def refB (okf : Ent → Bool) (q e : Ent) : Bool := okf e && (sameE q e && (decide (1 ≤ e.lsn) && (decide (e.lsn ≤ 1099511627776) && (earlyB e.prevTx e.lsn && (earlyB e.prevPage e.lsn && earlyB e.ref e.lsn)))))
theorem sameE_no {x y : Ent} (h : x ≠ y) : sameE x y = false := by
  cases hs : sameE x y with
  | false => rfl
  | true => exact absurd (sameE_iff.1 hs) h
theorem blob_nil {s : ByteArray} : noBlobB s = true ↔ s = ⟨#[]⟩ := by unfold noBlobB; rw [beq_iff_eq]; exact nil_iff s
theorem sameH_c0 {c : Chg} : noChangeB c = true ↔ c = chg0 := sameH_iff
/-- Both programs call the same entries valid. -/
theorem ref_is (e : Ent) : refB shapeB (shapeD e) e = validE e := by
  have hn : refB shapeB (shapeD e) e = (shapeB e && (sameE (shapeD e) e && numsB e)) := rfl
  rw [hn]
  unfold validE
  rw [Bool.eq_iff_iff]
  simp only [Bool.and_eq_true, sameE_iff]
  obtain ⟨l, k, t, pt, pp, r, c, s⟩ := e
  have key : ∀ P : Prop, (shapeB ⟨l, k, t, pt, pp, r, c, s⟩ = true ∧ shapeD ⟨l, k, t, pt, pp, r, c, s⟩ = ⟨l, k, t, pt, pp, r, c, s⟩ ∧ P ↔ kindB k = true ∧ P ∧ allowB ⟨l, k, t, pt, pp, r, c, s⟩ = true) := by
    intro P
    have e1 : (⟨#[]⟩ = s) ↔ (noBlobB s = true) := ⟨fun h => blob_nil.2 h.symm, fun h => (blob_nil.1 h).symm⟩
    have e2 : (chg0 = c) ↔ (noChangeB c = true) := ⟨fun h => sameH_c0.2 h.symm, fun h => (sameH_c0.1 h).symm⟩
    have e3 : ((⟨c.page, 0, noCell, noCell⟩ : Chg) = c) ↔ (sameH c ⟨c.page, 0, noCell, noCell⟩ = true) := ⟨fun h => sameH_iff.2 h.symm, fun h => (sameH_iff.1 h).symm⟩
    have z : ∀ n : Int, (0 = n) ↔ (n == 0) = true := fun n => by rw [beq_iff_eq]; exact ⟨Eq.symm, Eq.symm⟩
    by_cases k1 : k = 1
    · subst k1
      simp only [shapeB, shapeD, allowB, kindB, linksChangeB, if_pos, Bool.and_eq_true, e1, z, Ent.mk.injEq, true_and]
      simp only [show decide ((1:Int) ≤ 1) = true from rfl, show decide ((1:Int) ≤ 8) = true from rfl, true_and]
      constructor <;> (intro h; simp only [h, and_self])
    by_cases k2 : k = 2
    · subst k2
      simp only [shapeB, shapeD, allowB, kindB, linksUndoB, show ¬ ((2:Int) = 1) from by decide, if_false, if_true, Bool.and_eq_true, e1, Ent.mk.injEq, true_and]
      simp only [show decide ((1:Int) ≤ 2) = true from rfl, show decide ((2:Int) ≤ 8) = true from rfl, true_and]
      constructor
      · intro h
        simp only [h, and_self]
      · intro h
        obtain ⟨hp, ⟨h1, h2, h3⟩, h4, h5⟩ := h
        have : decide (0 < pt) = true := by simp only [decide_eq_true_eq] at *; omega
        simp only [this, hp, h1, h2, h3, h4, h5, and_self]
    by_cases k345 : k = 3 ∨ k = 4 ∨ k = 5
    · have kb : kindB k = true := by unfold kindB; simp only [Bool.and_eq_true, decide_eq_true_eq]; omega
      simp only [shapeB, shapeD, allowB, linksTurnB, k1, k2, k345, kb, if_false, if_true, Bool.and_eq_true, e1, e2, z, Ent.mk.injEq, true_and]
      constructor <;> (intro h; simp only [h, and_self])
    by_cases k7 : k = 7
    · subst k7
      have kb : kindB 7 = true := by decide
      simp only [shapeB, shapeD, allowB, linksPageB, pageAloneB, k1, k2, k345, kb, if_false, if_true, Bool.and_eq_true, e1, e3, z, Ent.mk.injEq, true_and]
      constructor <;> (intro h; simp only [h, and_self])
    by_cases k68 : k = 6 ∨ k = 8
    · have kb : kindB k = true := by unfold kindB; simp only [Bool.and_eq_true, decide_eq_true_eq]; omega
      simp only [shapeB, shapeD, allowB, linksNothingB, linksPageB, someBlobB, k1, k2, k345, k7, k68, kb, if_false, if_true, Bool.and_eq_true, e2, z, Ent.mk.injEq, true_and, and_true]
      constructor <;> (intro h; simp only [h, and_self])
    · have kb : kindB k = false := by
        unfold kindB
        rw [Bool.eq_false_iff]
        simp only [ne_eq, Bool.and_eq_true, decide_eq_true_eq]
        omega
      simp only [shapeB, k1, k2, k345, k7, k68, kb, if_false, Bool.false_eq_true, false_and]
  exact key _
end Go.Proofs.YtmlclccfmlcabaaDoor.og
