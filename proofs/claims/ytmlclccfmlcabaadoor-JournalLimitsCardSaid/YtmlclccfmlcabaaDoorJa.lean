/- Logs as plain data: their cells in memory, loads, stores, new ones; what chapter 6 asks. -/
import Derived.Test.YtmlclccfmlcabaaDoorQc
import Derived.Test.YtmlclccfmlcabaaDoorQd
namespace Go.Proofs.YtmlclccfmlcabaaDoor.ja
open Go.ChangeShapes Go.WideShapes Go.ChangeAt Go.RowKit Go.Proofs.YtmlclccfmlcabaaDoor.cx Go.Proofs.YtmlclccfmlcabaaDoor.ra Go.Proofs.YtmlclccfmlcabaaDoor.rb Go.Proofs.YtmlclccfmlcabaaDoor.rc Go.Proofs.YtmlclccfmlcabaaDoor.da Go.Proofs.YtmlclccfmlcabaaDoor.ea Go.Proofs.YtmlclccfmlcabaaDoor.eb Go.Proofs.YtmlclccfmlcabaaDoor.ed Go.Proofs.YtmlclccfmlcabaaDoor.fb Go.Proofs.YtmlclccfmlcabaaDoor.ka Go.Proofs.YtmlclccfmlcabaaDoor.kb Go.Proofs.YtmlclccfmlcabaaDoor.kg Go.Proofs.YtmlclccfmlcabaaDoor.kj Go.Proofs.YtmlclccfmlcabaaDoor.oa Go.Proofs.YtmlclccfmlcabaaDoor.os Go.Proofs.YtmlclccfmlcabaaDoor.od Go.Proofs.YtmlclccfmlcabaaDoor.oh Go.Proofs.YtmlclccfmlcabaaDoor.qa Go.Proofs.YtmlclccfmlcabaaDoor.qc Go.Proofs.YtmlclccfmlcabaaDoor.qd
set_option linter.unusedSimpArgs false

structure Lg where
  first : Int
  ents : List Ent
  dur : Int
def lvals (f : Int) (v : Value) (d : Int) : List Value := [.int .i64 f, v, .int .i64 d]
theorem lvals_length (f : Int) (v : Value) (d : Int) : (lvals f v d).length = 3 := rfl
def One (v : Value) : Prop := v.oneCell' = true
theorem one_slice (so : Option Addr) (n c : Nat) : One (.slice so n c) := rfl
theorem lvals_one (f : Int) {v : Value} (d : Int) (hv : One v) : (lvals f v d).all (·.oneCell') = true := by
  show (true && (v.oneCell' && (true && true))) = true
  simp only [One] at hv
  rw [hv]; rfl
theorem _root_.Go.Proofs.YtmlclccfmlcabaaDoor.ra.RowAt.all3 {b : Nat} {f d : Int} {v : Value} {w : World} (h : RowAt b (lvals f v d) w) : w.cell? ⟨b, 0, none⟩ = some (.int .i64 f) ∧ w.cell? ⟨b, 1, none⟩ = some v ∧ w.cell? ⟨b, 2, none⟩ = some (.int .i64 d) :=
  ⟨h.cells 0 _ rfl, h.cells 1 _ rfl, h.cells 2 _ rfl⟩
/-- A log value whose entries can be read. -/
def LogV (vs : List Value) (l : Lg) (w : World) : Prop := ∃ v, vs = lvals l.first v l.dur ∧ Sl v 13 l.ents.length (entL l.ents) w
theorem LogV.keep {vs : List Value} {l : Lg} {w w' : World} (h : LogV vs l w) (hb : Below w.heap.size w w') : LogV vs l w' := by
  obtain ⟨v, h1, h2⟩ := h
  exact ⟨v, h1, h2.keep hb⟩
theorem LogV.drew {vs : List Value} {l : Lg} {w : World} (h : LogV vs l w) : LogV vs l w.drew := by
  obtain ⟨v, h1, h2⟩ := h
  exact ⟨v, h1, h2.drew⟩
theorem LogV.length {vs : List Value} {l : Lg} {w : World} (h : LogV vs l w) : vs.length = 3 := by
  obtain ⟨v, rfl, _⟩ := h; rfl
theorem LogV.form {vs : List Value} {l : Lg} {w : World} (h : LogV vs l w) : ∃ so cap, vs = lvals l.first (.slice so l.ents.length cap) l.dur ∧ Hid (Sl (.slice so l.ents.length cap) 13 l.ents.length (entL l.ents) w) := by
  obtain ⟨v, h1, h2⟩ := h
  obtain ⟨so, cap, rfl, _⟩ := h2.form
  exact ⟨so, cap, h1, Lib.hid h2⟩
def noLog : Lg := ⟨0, [], 0⟩
def newLog : Lg := ⟨1, [], 0⟩
def log0 : List Value := lvals 0 (.slice none 0 0) 0
theorem logV0 (w : World) : LogV log0 noLog w := ⟨_, rfl, Sl.nil 13 w⟩
theorem logV1 (w : World) : LogV (lvals 1 (.slice none 0 0) 0) newLog w := ⟨_, rfl, Sl.nil 13 w⟩
/-- What the chapter asks of a log. -/
def lastN (l : Lg) : Int := l.first + (l.ents.length : Int) - 1
def rowB : List Ent → Int → Bool
  | [], _ => true
  | e :: l, n => validE e && (e.lsn == n && rowB l (n + 1))
theorem rowB_iff : ∀ (l : List Ent) (n : Int), rowB l n = true ↔ Row l n
  | [], n => by simp [rowB, Row]
  | e :: l, n => by
    show (validE e && (e.lsn == n && rowB l (n + 1))) = true ↔ (validE e = true ∧ e.lsn = n ∧ Row l (n + 1))
    rw [Bool.and_eq_true, Bool.and_eq_true, beq_iff_eq, rowB_iff l (n + 1)]
structure IsLog (l : Lg) : Prop where
  first1 : 1 ≤ l.first
  first2 : l.first ≤ 1099511627776
  len : l.ents.length ≤ 4096
  row : Row l.ents l.first
  dur1 : l.first - 1 ≤ l.dur
  dur2 : l.dur ≤ l.first + (l.ents.length : Int) - 1
def validL (l : Lg) : Bool := (decide (1 ≤ l.first) && decide (l.first ≤ 1099511627776)) && ((decide (l.ents.length ≤ 4096) && rowB l.ents l.first) && (decide (l.first - 1 ≤ l.dur) && decide (l.dur ≤ l.first + (l.ents.length : Int) - 1)))
theorem valid_iff {l : Lg} : validL l = true ↔ IsLog l := by
  unfold validL
  simp only [Bool.and_eq_true, decide_eq_true_eq, rowB_iff]
  constructor
  · rintro ⟨⟨a, b⟩, ⟨c, d⟩, e, f⟩; exact ⟨a, b, c, d, e, f⟩
  · rintro ⟨a, b, c, d, e, f⟩; exact ⟨⟨a, b⟩, ⟨c, d⟩, e, f⟩
theorem nv {l : Lg} (h : IsLog l → False) : validL l = false := by
  cases hh : validL l
  · rfl
  · exact (h (valid_iff.1 hh)).elim
def FitsL (l : Lg) : Prop := ∀ e ∈ l.ents, FitsE e
def lastL (l : Lg) : Int := if validL l = true then lastN l else 0
def numE (e : Ent) (n : Int) : Ent := { e with lsn := n }
/-- The error of Append: 26 the log, 21 the limit, 12 the entry. -/
def appendE (l : Lg) (e : Ent) : Int := if validL l = false then 26 else if l.ents.length = 4096 ∨ lastN l = 1099511627776 then 21 else if validE (numE e (lastN l + 1)) = false then 12 else 0
def appendL (l : Lg) (e : Ent) : Lg := if appendE l e = 0 then { l with ents := l.ents ++ [numE e (lastN l + 1)] } else noLog
def appendN (l : Lg) (e : Ent) : Int := if appendE l e = 0 then lastN l + 1 else 0
def forceE (l : Lg) (n : Int) : Int := if validL l = false then 26 else if lastN l < n then 14 else 0
def forceL (l : Lg) (n : Int) : Lg := if forceE l n = 0 then { l with dur := max l.dur n } else noLog
def getE (l : Lg) (n : Int) : Int := if validL l = false then 26 else if n < l.first ∨ lastN l < n then 14 else 0
def getX (l : Lg) (n : Int) : Ent := if getE l n = 0 then l.ents.getD (n - l.first).toNat ent0 else ent0
def cutE (l : Lg) (n : Int) : Int := if validL l = false then 26 else if n < l.first ∨ lastN l + 1 < n ∨ 1099511627776 < n then 1 else if l.dur + 1 < n then 15 else 0
def cutL (l : Lg) (n : Int) : Lg := if cutE l n = 0 then { l with first := n, ents := l.ents.drop (n - l.first).toNat } else noLog
def bytesL (l : Lg) : ByteArray := if validL l = true then headF l.first ++ logF l.ents else ⟨#[]⟩
def durN (l : Lg) : Nat := (l.dur - l.first + 1).toNat
def tornN (n : Int) (k : Nat) : Nat := min n.toNat k
def crashL (l : Lg) (n : Int) : ByteArray := if validL l = true then headF l.first ++ (logF (l.ents.take (durN l)) ++ (logF (l.ents.drop (durN l))).extract 0 (tornN n (logF (l.ents.drop (durN l))).size)) else ⟨#[]⟩
def openE (s : ByteArray) : Int := if (openO 4096 s).isSome then 0 else 4
def openL (s : ByteArray) : Lg := match openO 4096 s with
  | some (f, l) => ⟨f, l, f + (l.length : Int) - 1⟩
  | none => noLog
theorem info_log : (Tryd.prog.info? 25).map (·.size) = some 3 := by kernel_rfl
theorem info_ents1 : (Tryd.prog.info? 23).map (·.size) = some 1 := by kernel_rfl
theorem zero_log (W : World) : (zeroValue 25).run Tryd.prog W = .ok (.agg log0.toArray) W := by kernel_rfl
section
variable {ops : Array Oper} {rest : List Oper} {o : Oper} {a : Act} {w : World} {Q : Exit → Act → World → Prop} {x y : Operand} {b : Nat}
theorem wp_loadLog (f : Int) (v : Value) (d : Int) (hp : RowAt b (lvals f v d) w) (ho : o.op = .load 25 x)
    (hx : a.eval x = .pointer (some ⟨b, 0, none⟩)) (hgd : Region.wanted o (yielded ops a.tmps) = true) (hn : wpList Tryd.prog ops Q rest (a.put o.dst (.agg (lvals f v d).toArray)) w) : wpList Tryd.prog ops Q (o :: rest) a w :=
  wp_load (lvals f v d) _ _ hp Tryd.underlying25 rfl info_log (fun j v hv => by rw [Nat.zero_add]; exact hv) ho hx hgd hn
theorem wp_storeLogW {vs : List Value} (f : Int) (v : Value) (d : Int) (hv : One v) (hr : RowAt b vs w) (hl : vs.length = 3) (ho : o.op = .store 25 x y)
    (hx : a.eval x = .pointer (some ⟨b, 0, none⟩)) (hy : a.eval y = .agg (lvals f v d).toArray) (hgd : Region.wanted o (yielded ops a.tmps) = true)
    (h : ∀ W, RowAt b (lvals f v d) W → StoredAt b w W → wpList Tryd.prog ops Q rest (a.put o.dst undef) W) : wpList Tryd.prog ops Q (o :: rest) a w := by
  have hs := RowAt.setCells (lvals f v d) 0 hr (by rw [lvals_length, hl]; exact Nat.le_refl _)
  rw [splice_all _ _ (by rw [lvals_length, hl])] at hs
  exact wp_store _ _ hr info_log (lvals_one f d hv) (by rw [lvals_length, hl]; exact Nat.le_refl _) ho hx hy hgd (h _ hs ⟨_, _, rfl⟩)
theorem wp_boxLogW (f : Int) (v : Value) (d : Int) (ho : o.op = .box 25 x) (hx : a.eval x = .agg (lvals f v d).toArray)
    (hgd : Region.wanted o (yielded ops a.tmps) = true) (h : ∀ W, RowAt w.heap.size (lvals f v d) W → Below w.heap.size w W → w.heap.size < W.heap.size → wpList Tryd.prog ops Q rest (a.put o.dst (.pointer (some ⟨w.heap.size, 0, none⟩))) W) : wpList Tryd.prog ops Q (o :: rest) a w :=
  wp_boxW (lvals f v d) _ ho hx hgd h
theorem wp_newLogW (ho : o.op = .alloc 25)
    (hgd : Region.wanted o (yielded ops a.tmps) = true) (h : ∀ W, RowAt w.heap.size log0 W → Below w.heap.size w W → w.heap.size < W.heap.size → wpList Tryd.prog ops Q rest (a.put o.dst (.pointer (some ⟨w.heap.size, 0, none⟩))) W) : wpList Tryd.prog ops Q (o :: rest) a w :=
  wp_newW log0 _ zero_log ho hgd h
end
theorem build_log0 (W : World) : (Instr.build 25 #[]).run Tryd.prog W = .ok (.agg log0.toArray) W := by kernel_rfl
theorem build_log1 (f : Int) (W : World) : (Instr.build 25 #[(0, .int .i64 f)]).run Tryd.prog W = .ok (.agg (lvals f (.slice none 0 0) 0).toArray) W := by kernel_rfl
theorem build_log2 (f d : Int) (W : World) : (Instr.build 25 #[(0, .int .i64 f), (2, .int .i64 d)]).run Tryd.prog W = .ok (.agg (lvals f (.slice none 0 0) d).toArray) W := by kernel_rfl
theorem build_logE (f : Int) (so : Option Addr) (n c : Nat) (W : World) : (Instr.build 25 #[(0, .int .i64 f), (1, .slice so n c)]).run Tryd.prog W = .ok (.agg (lvals f (.slice so n c) 0).toArray) W := by kernel_rfl
end Go.Proofs.YtmlclccfmlcabaaDoor.ja
