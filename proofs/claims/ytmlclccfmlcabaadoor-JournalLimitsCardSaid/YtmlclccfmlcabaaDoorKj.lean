/- Pages and changes as arguments; the draw of an odd change. -/
import Derived.Test.YtmlclccfmlcabaaDoorKg
namespace Go.Proofs.YtmlclccfmlcabaaDoor.kj
open Go.ChangeShapes Go.WideShapes Go.ChangeAt Go.RowKit Go.Proofs.YtmlclccfmlcabaaDoor.cx Go.Proofs.YtmlclccfmlcabaaDoor.da Go.Proofs.YtmlclccfmlcabaaDoor.ea Go.Proofs.YtmlclccfmlcabaaDoor.eb Go.Proofs.YtmlclccfmlcabaaDoor.ed Go.Proofs.YtmlclccfmlcabaaDoor.fb Go.Proofs.YtmlclccfmlcabaaDoor.ka Go.Proofs.YtmlclccfmlcabaaDoor.kb Go.Proofs.YtmlclccfmlcabaaDoor.kg Go.Proofs.YtmlclccfmlcabaaDoor.ra Go.Proofs.YtmlclccfmlcabaaDoor.rb Go.Proofs.YtmlclccfmlcabaaDoor.rc Go.Proofs.YtmlclccfmlcabaaDoor.ya
theorem cell_int {P : Program} {w : World} {r : Reach} {base : Nat} {t : TypeId} {k : IntKind} {v : Value} (ht : P.underlying t = some (.int k)) (h : Cell.okWide P w r base t v) : ∃ n, v = .int k n := by
  simp only [Cell.okWide, ht] at h
  cases v <;> simp_all [Cell.ok]
theorem cell_bool {P : Program} {w : World} {r : Reach} {base : Nat} {t : TypeId} {v : Value} (ht : P.underlying t = some .bool) (h : Cell.okWide P w r base t v) : ∃ n, v = .bool n := by
  simp only [Cell.okWide, ht] at h
  cases v <;> simp_all [Cell.ok]
theorem cell_str {P : Program} {w : World} {r : Reach} {base : Nat} {t : TypeId} {v : Value} (ht : P.underlying t = some .string) (h : Cell.okWide P w r base t v) : ∃ s, v = .string s ∧ s.size ≤ 9223372036854775807 := by
  simp only [Cell.okWide, ht] at h
  cases v <;> simp_all [Cell.ok]
  omega
theorem chg_types : Tryd.prog.cellTypes Tryd.prog.depth 29 = some [3, 3, 4, 9, 4, 9] := by kernel_rfl
theorem chg_cells : Tryd.prog.cellsOf 29 = 6 := by kernel_rfl
theorem open_change {W : World} {r : Reach} {base : Nat} {v : Value} (h : Value.okWide Tryd.prog W r base 29 v) : ∃ c : Chg, v = .agg c.arr ∧ FitsH c := by
  simp only [Value.okWide, Tryd.underlying29] at h
  obtain ⟨cs, rfl, hsz, ts, hts, _, hc⟩ := h
  obtain rfl := Option.some.inj (chg_types.symm.trans hts)
  rw [chg_cells] at hsz
  obtain ⟨l⟩ := cs
  match l, hsz with
  | [a, b, c, d, e, f], _ =>
    obtain ⟨u0, hu0, k0⟩ := hc 0 a rfl
    obtain ⟨u1, hu1, k1⟩ := hc 1 b rfl
    obtain ⟨u2, hu2, k2⟩ := hc 2 c rfl
    obtain ⟨u3, hu3, k3⟩ := hc 3 d rfl
    obtain ⟨u4, hu4, k4⟩ := hc 4 e rfl
    obtain ⟨u5, hu5, k5⟩ := hc 5 f rfl
    obtain rfl := Option.some.inj hu0
    obtain rfl := Option.some.inj hu1
    obtain rfl := Option.some.inj hu2
    obtain rfl := Option.some.inj hu3
    obtain rfl := Option.some.inj hu4
    obtain rfl := Option.some.inj hu5
    obtain ⟨n0, rfl⟩ := cell_int Tryd.underlying3 k0
    obtain ⟨n1, rfl⟩ := cell_int Tryd.underlying3 k1
    obtain ⟨b2, rfl⟩ := cell_bool Tryd.underlying4 k2
    obtain ⟨s3, rfl, h3⟩ := cell_str Tryd.underlying9 k3
    obtain ⟨b4, rfl⟩ := cell_bool Tryd.underlying4 k4
    obtain ⟨s5, rfl, h5⟩ := cell_str Tryd.underlying9 k5
    exact ⟨⟨n0, n1, ⟨b2, s3⟩, ⟨b4, s5⟩⟩, rfl, h3, h5⟩

def OddHR (p : Nat) (w : World) (e : Ending) (w' : World) : Prop := ∃ c : Chg, e = .returned (.agg c.arr) ∧ FitsH c ∧ Cod p w' ∧ Since p w w'
theorem data_le {d : ByteArray} (h : d.size ≤ 13) : d.size ≤ 9223372036854775807 := Nat.le_trans h (by decide)
theorem storedAt_cod {b p : Nat} {w W : World} (h : StoredAt b w W) (hc : Cod p w) (hb : p < b) : Cod p W := by
  obtain ⟨f, us, rfl⟩ := h
  exact cod_cells us f hc hb
theorem storedAt_since {b p : Nat} {w0 w W : World} (h : StoredAt b w W) (hc : Since p w0 w) (hb : w0.heap.size ≤ b) : Since p w0 W := by
  obtain ⟨f, us, rfl⟩ := h
  exact since_cells us f hc hb
end Go.Proofs.YtmlclccfmlcabaaDoor.kj
