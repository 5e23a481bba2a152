/- Entries as arguments. -/
import Derived.Test.YtiojpfljnbdonaaOd
namespace Go.Proofs.Ytiojpfljnbdonaa.pe
open Go.ChangeShapes Go.WideShapes Go.ChangeAt Go.RowKit Go.Proofs.Ytiojpfljnbdonaa.da Go.Proofs.Ytiojpfljnbdonaa.ka Go.Proofs.Ytiojpfljnbdonaa.kb Go.Proofs.Ytiojpfljnbdonaa.kj Go.Proofs.Ytiojpfljnbdonaa.oa Go.Proofs.Ytiojpfljnbdonaa.od

theorem ent_types : Try.prog.cellTypes Try.prog.depth 28 = some [3, 3, 3, 3, 3, 3, 3, 3, 4, 9, 4, 9, 9] := by kernel_rfl
theorem ent_cells : Try.prog.cellsOf 28 = 13 := by kernel_rfl
theorem open_entry {W : World} {r : Reach} {base : Nat} {v : Value} (h : Value.okWide Try.prog W r base 28 v) : ∃ e : Ent, v = .agg e.arr ∧ FitsE e := by
  simp only [Value.okWide, Try.underlying28] at h
  obtain ⟨cs, rfl, hsz, ts, hts, _, hc⟩ := h
  obtain rfl := Option.some.inj (ent_types.symm.trans hts)
  rw [ent_cells] at hsz
  obtain ⟨l⟩ := cs
  match l, hsz with
  | [a0, a1, a2, a3, a4, a5, a6, a7, a8, a9, a10, a11, a12], _ =>
    obtain ⟨u0, hu0, k0⟩ := hc 0 a0 rfl
    obtain ⟨u1, hu1, k1⟩ := hc 1 a1 rfl
    obtain ⟨u2, hu2, k2⟩ := hc 2 a2 rfl
    obtain ⟨u3, hu3, k3⟩ := hc 3 a3 rfl
    obtain ⟨u4, hu4, k4⟩ := hc 4 a4 rfl
    obtain ⟨u5, hu5, k5⟩ := hc 5 a5 rfl
    obtain ⟨u6, hu6, k6⟩ := hc 6 a6 rfl
    obtain ⟨u7, hu7, k7⟩ := hc 7 a7 rfl
    obtain ⟨u8, hu8, k8⟩ := hc 8 a8 rfl
    obtain ⟨u9, hu9, k9⟩ := hc 9 a9 rfl
    obtain ⟨u10, hu10, k10⟩ := hc 10 a10 rfl
    obtain ⟨u11, hu11, k11⟩ := hc 11 a11 rfl
    obtain ⟨u12, hu12, k12⟩ := hc 12 a12 rfl
    obtain rfl := Option.some.inj hu0
    obtain rfl := Option.some.inj hu1
    obtain rfl := Option.some.inj hu2
    obtain rfl := Option.some.inj hu3
    obtain rfl := Option.some.inj hu4
    obtain rfl := Option.some.inj hu5
    obtain rfl := Option.some.inj hu6
    obtain rfl := Option.some.inj hu7
    obtain rfl := Option.some.inj hu8
    obtain rfl := Option.some.inj hu9
    obtain rfl := Option.some.inj hu10
    obtain rfl := Option.some.inj hu11
    obtain rfl := Option.some.inj hu12
    obtain ⟨n0, rfl⟩ := cell_int Try.underlying3 k0
    obtain ⟨n1, rfl⟩ := cell_int Try.underlying3 k1
    obtain ⟨n2, rfl⟩ := cell_int Try.underlying3 k2
    obtain ⟨n3, rfl⟩ := cell_int Try.underlying3 k3
    obtain ⟨n4, rfl⟩ := cell_int Try.underlying3 k4
    obtain ⟨n5, rfl⟩ := cell_int Try.underlying3 k5
    obtain ⟨n6, rfl⟩ := cell_int Try.underlying3 k6
    obtain ⟨n7, rfl⟩ := cell_int Try.underlying3 k7
    obtain ⟨b8, rfl⟩ := cell_bool Try.underlying4 k8
    obtain ⟨s9, rfl, h9⟩ := cell_str Try.underlying9 k9
    obtain ⟨b10, rfl⟩ := cell_bool Try.underlying4 k10
    obtain ⟨s11, rfl, h11⟩ := cell_str Try.underlying9 k11
    obtain ⟨s12, rfl, h12⟩ := cell_str Try.underlying9 k12
    exact ⟨⟨n0, n1, n2, n3, n4, n5, ⟨n6, n7, ⟨b8, s9⟩, ⟨b10, s11⟩⟩, s12⟩, rfl, ⟨h9, h11⟩, h12⟩
end Go.Proofs.Ytiojpfljnbdonaa.pe
