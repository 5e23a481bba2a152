/- Readers of cells, changes and entries. -/
import Derived.Test.YtmlclccfmlcabaaDoorOj
namespace Go.Proofs.YtmlclccfmlcabaaDoor.ok
open Go.ChangeShapes Go.WideShapes Go.ChangeAt Go.RowKit Go.Proofs.YtmlclccfmlcabaaDoor.cp Go.Proofs.YtmlclccfmlcabaaDoor.cg Go.Proofs.YtmlclccfmlcabaaDoor.ch Go.Proofs.YtmlclccfmlcabaaDoor.cx Go.Proofs.YtmlclccfmlcabaaDoor.ra Go.Proofs.YtmlclccfmlcabaaDoor.rb Go.Proofs.YtmlclccfmlcabaaDoor.rc Go.Proofs.YtmlclccfmlcabaaDoor.da Go.Proofs.YtmlclccfmlcabaaDoor.ea Go.Proofs.YtmlclccfmlcabaaDoor.eb Go.Proofs.YtmlclccfmlcabaaDoor.ed Go.Proofs.YtmlclccfmlcabaaDoor.fb Go.Proofs.YtmlclccfmlcabaaDoor.ka Go.Proofs.YtmlclccfmlcabaaDoor.kb Go.Proofs.YtmlclccfmlcabaaDoor.kg Go.Proofs.YtmlclccfmlcabaaDoor.kj Go.Proofs.YtmlclccfmlcabaaDoor.oa Go.Proofs.YtmlclccfmlcabaaDoor.os Go.Proofs.YtmlclccfmlcabaaDoor.oj
set_option linter.unusedSimpArgs false

theorem numR_pos (s : ByteArray) (k : Nat) (r : RS) (h : r.pos ≤ s.size) : (numR s k r).2.pos ≤ s.size := by
  unfold numR
  split
  · split
    · assumption
    · exact h
  · exact h
theorem txtR_pos (s : ByteArray) (n : Nat) (r : RS) (h : r.pos ≤ s.size) : (txtR s n r).2.pos ≤ s.size := by
  unfold txtR
  split
  · split
    · assumption
    · exact h
  · exact h
theorem celR_pos (s : ByteArray) (r : RS) (h : r.pos ≤ s.size) : (celR s r).2.pos ≤ s.size := by
  have h1 := numR_pos s 1 r h
  unfold celR
  simp only
  split
  · split
    · exact h1
    · split
      · exact h1
      · exact txtR_pos s _ _ h1
  · exact h1
theorem numR_nat (s : ByteArray) (k : Nat) (hk : k < 8) (r : RS) : ∃ n : Nat, (numR s k r).1 = (n : Int) ∧ n < 2 ^ (8 * k) := by
  unfold numR
  split
  · split
    · exact ⟨uget s r.pos k, getN_small s r.pos k hk, uget_lt s r.pos k⟩
    · exact ⟨0, rfl, Nat.two_pow_pos _⟩
  · exact ⟨0, rfl, Nat.two_pow_pos _⟩
theorem txtR_size (s : ByteArray) (n : Nat) (r : RS) : (txtR s n r).1.size ≤ s.size := by
  unfold txtR
  split
  · split
    · rw [ByteArray.size_extract]; omega
    · exact Nat.zero_le _
  · exact Nat.zero_le _
theorem celR_size (s : ByteArray) (r : RS) : (celR s r).1.data.size ≤ s.size := by
  unfold celR
  simp only
  split
  · split
    · exact Nat.zero_le _
    · split
      · exact Nat.zero_le _
      · exact txtR_size s _ _
  · exact Nat.zero_le _
def chgR (s : ByteArray) (r : RS) : Chg × RS :=
  let a := numR s 4 r
  let b := numR s 1 a.2
  let c := celR s b.2
  let d := celR s c.2
  (⟨a.1, b.1, c.1, d.1⟩, d.2)
def entR (s : ByteArray) (r : RS) : Ent × RS :=
  let a1 := numR s 8 r
  let a2 := numR s 1 a1.2
  let a3 := numR s 4 a2.2
  let a4 := numR s 8 a3.2
  let a5 := numR s 8 a4.2
  let a6 := numR s 8 a5.2
  let c := chgR s a6.2
  let n := numR s 4 c.2
  let t := txtR s n.1.toNat n.2
  (⟨a1.1, a2.1, a3.1, a4.1, a5.1, a6.1, c.1, t.1⟩, t.2)
theorem chgR_pos (s : ByteArray) (r : RS) (h : r.pos ≤ s.size) : (chgR s r).2.pos ≤ s.size := celR_pos s _ (celR_pos s _ (numR_pos s _ _ (numR_pos s _ _ h)))
/-- What a reading function does, from any world in which its reader stands so. -/
abbrev ReadC (fn : Nat) (args : Array Value) (b : Nat) (s : ByteArray) (r : RS) (v : Value) (r' : RS) : Prop := ∀ W : World, RowAt b (rdVals s r) W → Calls Tryd.prog fn args W (Reads b s v r' W)
theorem zero_cell (W : World) : (zeroValue 27).run Tryd.prog W = .ok (.agg noCell.vals.toArray) W := by kernel_rfl
theorem grown_store {w W W' : World} {p b : Nat} (h : w.grownBy W (some p)) (hs : StoredAt b W W') (hb : w.heap.size ≤ b) : w.grownBy W' (some p) := storedAt_since hs h hb
section
variable {ops : Array Oper} {rest : List Oper} {o : Oper} {a : Act} {w : World} {Q : Exit → Act → World → Prop}
theorem wp_buildEnt {x0 x1 x2 x3 x4 x5 x6 x7 : Operand} (n0 n1 n2 n3 n4 n5 : Int) (g : Chg) (s : ByteArray) (ho : o.op = .build 31 #[(0, x0), (1, x1), (2, x2), (3, x3), (4, x4), (5, x5), (6, x6), (7, x7)])
    (h0 : a.eval x0 = .int .i64 n0) (h1 : a.eval x1 = .int .i64 n1) (h2 : a.eval x2 = .int .i64 n2) (h3 : a.eval x3 = .int .i64 n3) (h4 : a.eval x4 = .int .i64 n4) (h5 : a.eval x5 = .int .i64 n5) (h6 : a.eval x6 = .agg g.arr) (h7 : a.eval x7 = .string s)
    (hgd : Region.wanted o (yielded ops a.tmps) = true) (hn : wpList Tryd.prog ops Q rest (a.put o.dst (.agg (Ent.arr ⟨n0, n1, n2, n3, n4, n5, g, s⟩))) w) : wpList Tryd.prog ops Q (o :: rest) a w :=
  wpList_step fun _ hK => by
    rw [if_pos hgd]
    have hb := build_ent n0 n1 n2 n3 n4 n5 g s w
    unfold Oper.wp execOp
    simp only [ho]
    simp only [List.map_toArray, List.map_cons, List.map_nil, h0, h1, h2, h3, h4, h5, h6, h7, hb, Sem.run_bind, Result.andThen_ok, Sem.run_pure]
    exact hK _ _ hn
end
theorem entR_pos (s : ByteArray) (r : RS) (h : r.pos ≤ s.size) : (entR s r).2.pos ≤ s.size := txtR_pos s _ _ (numR_pos s _ _ (chgR_pos s _ (numR_pos s _ _ (numR_pos s _ _ (numR_pos s _ _ (numR_pos s _ _ (numR_pos s _ _ (numR_pos s _ _ h))))))))
end Go.Proofs.YtmlclccfmlcabaaDoor.ok
