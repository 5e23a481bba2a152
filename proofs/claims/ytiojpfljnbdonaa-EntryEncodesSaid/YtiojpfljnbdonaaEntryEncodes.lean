/- It proves that for every input EntryEncodes returns true and leaves its arguments as they were; no condition. -/
import Derived.Test.YtiojpfljnbdonaaCl
import Derived.Test.YtiojpfljnbdonaaOz
import Derived.Test.YtiojpfljnbdonaaPe
namespace Go.Proofs.Ytiojpfljnbdonaa.entryEncodes
open Go.ChangeShapes Go.WideShapes Go.ChangeAt Go.RowKit Go.WideMaps Go.WideElems
open Go.ChangeMaps (open_string shut_string)
open Go.Proofs.Ytiojpfljnbdonaa.cx Go.Proofs.Ytiojpfljnbdonaa.cl Go.Proofs.Ytiojpfljnbdonaa.oa Go.Proofs.Ytiojpfljnbdonaa.oz Go.Proofs.Ytiojpfljnbdonaa.pe

theorem cells8 : Try.prog.cellsOf 5 = 1 := by kernel_rfl


set_option maxRecDepth 100000 in
theorem contract (H : Type) (enc : TypeId × Value → H) (W : World) (base : Nat) (args : Array Value) (ds gs : List (DataW H)) (before : List MemPlace)
    (hval : ∀ (j : Nat) t v, Try.f3.params[j]? = some t → args[j]? = some v → Value.okWide Try.prog W .any base t v)
    (hW : DataW.Whole enc Try.prog Try.f3.params.toList Rows.entryEncodesSpec.vars false W args.toList ds gs before)    :
    Calls Try.prog 3 args W fun e W' => ∃ v, e = .returned v ∧ Rows.entryEncodesSpec.post enc Try.prog Try.f3 false true false false W args v W' := by
  have hW' := hW
  obtain ⟨p, q, hA0, hV, rfl, hfz, hnd⟩ := hW
  have hA : DataW.TrodAll enc Try.prog W 0 (fun _ => true) true Try.f3.params.toList args.toList ds p := hA0
  rw [Try.params3] at hA hval
  obtain ⟨v0, vs0, d0, ds0, p0, q0, hargs, rfl, rfl, h0, r0⟩ := trodAll_cons hA
  obtain ⟨v1, vs1, d1, ds1, p1, q1, rfl, rfl, rfl, h1, r1⟩ := trodAll_cons r0
  obtain ⟨rfl, rfl, rfl⟩ := trodAll_nil r1
  obtain rfl : args = #[v0, v1] := by cases args; simp_all
  obtain ⟨rfl, rfl⟩ := trodVars_none hV
  obtain ⟨so_l, len_l, cap_l, rfl⟩ := okWide_slice Try.underlying22 (hval 0 22 v0 rfl rfl)
  obtain ⟨fuel_l, hf_l⟩ := h0
  have hb_l : BytesIn so_l len_l W ∧ len_l ≤ 9223372036854775807 ∧ len_l ≤ cap_l := by
    rcases open_ints Try.underlying22 Try.underlying5 cells8 hf_l with ⟨hcs, hx⟩ | ⟨a0, len', cap', zs, hcs, e1, hl, hm, hz, hx, hcell, hwz⟩
    · simp only [Value.cells, List.cons.injEq, Value.slice.injEq, and_true] at hcs
      obtain ⟨rfl, rfl, rfl⟩ := hcs
      exact ⟨fun i hi => by omega, by omega, by omega⟩
    · simp only [Value.cells, List.cons.injEq, Value.slice.injEq, and_true] at hcs
      obtain ⟨rfl, rfl, rfl⟩ := hcs
      simp only [if_true] at hz
      unfold maxLen at hm
      refine ⟨fun i hi => ?_, by omega, hl⟩
      obtain ⟨b, off, rfl, hc⟩ := ints_at hcell (by omega)
      have hmem : zs.getD i 0 ∈ zs := by rw [List.getD, List.getElem?_eq_getElem (show i < zs.length by omega)]; exact List.getElem_mem _
      have hb := bounds_u8 (hwz _ hmem)
      exact ⟨b, off, zs.getD i 0, rfl, hc i (by omega), by omega, by omega⟩
  obtain ⟨r, rfl, hf_r⟩ := open_entry (hval 1 28 v1 rfl rfl)
  refine (encodes_walk so_l len_l cap_l r W hf_r hb_l.1 hb_l.2.1 hb_l.2.2).mono fun e W' ⟨he, hg⟩ => ?_
  subst he
  exact ⟨_, rfl, cf.law_post laidOut (by kernel_rfl) (by kernel_rfl) Try.underlying4 rfl hW' rfl hg⟩

theorem laid_met (os : Os) : laidMet Try.prog Rows.entryEncodesRow.laid ((laidWorld os).forCall (fun _ _ => 0) ⟨#[], #[.slice none 0 0, .agg ent0.arr], []⟩).memory := laidMet_nil _ _
theorem reads (os : Os) {H : Type} (enc : TypeId × Value → H) : ∃ places, DataW.whole enc Try.prog ((laidWorld os).forCall (fun _ _ => 0) ⟨#[], #[.slice none 0 0, .agg ent0.arr], []⟩).memory Try.f3.params.toList Rows.entryEncodesSpec.vars false #[Value.slice none 0 0, .agg ent0.arr].toList 8 = some ([.nil, .agg [.lit (.int .i64 0), .lit (.int .i64 0), .lit (.int .i64 0), .lit (.int .i64 0), .lit (.int .i64 0), .lit (.int .i64 0), .agg [.lit (.int .i64 0), .lit (.int .i64 0), .agg [.lit (.bool false), .lit (.string [])], .agg [.lit (.bool false), .lit (.string [])]], .lit (.string [])]], [], places) :=
  ⟨[], by kernel_rfl⟩

set_option maxRecDepth 100000 in
theorem lifted (os : Os) (started : os.Started) (H : Type) (enc : TypeId × Value → H) (F : Stop.Interp) :
    ReturnsInHanded {} Try.checked os 3 .any ((OpenSpec.ofChange Rows.entryEncodesSpec).preRow enc Try.prog Try.f3 Rows.entryEncodesRow.domain false Rows.entryEncodesRow.laid) (((OpenSpec.ofChange Rows.entryEncodesSpec).at F).post enc Try.prog Try.f3 false true false false) := by
  obtain ⟨places, hx⟩ := reads os enc
  refine returnsInHanded_of_row (C := Try.checked) (s := OpenSpec.ofChange Rows.entryEncodesSpec) own started (by kernel_rfl) Try.func3
    (witness_row_at (enc := enc) (C := Try.checked) false (laidWorld os) #[.slice none 0 0, .agg ent0.arr] rfl (by kernel_rfl) (by kernel_rfl) (by kernel_rfl)
      (OpenSpec.preRow_of_cond 8 hx (by kernel_rfl) (fun k hk => by cases hk) (by kernel_rfl) (laid_met os))) ?_
  intro W base args ds gs before hval hW _ _ _ _ _ _
  exact contract H enc W base args ds gs before hval hW

theorem said : Rows.EntryEncodesSaid :=
  OpenClaim.holds_of_cond 3 Try.f3 rfl rfl rfl rfl rfl rfl rfl ⟨rfl, rfl, rfl, rfl, rfl⟩ rfl rfl rfl rfl rfl (by kernel_rfl) Try.func3 (by kernel_rfl)
    (of_decide_eq_true (by kernel_rfl)) (by unfold Func.isWrapper; first | (rw [if_pos (by decide +kernel)]; kernel_rfl) | (rw [if_neg (by decide +kernel)]; exact ⟨rfl, rfl⟩))
    (fun os started H enc _ F => by rw [OpenClaim.pre_eq_preRow]; exact lifted os started H enc F)

end Go.Proofs.Ytiojpfljnbdonaa.entryEncodes
