/- journal: Valid, Last, New, and what they call. -/
import Derived.Test.YtmlclccfmlcabaaDoorJa
import Derived.Test.YtmlclccfmlcabaaDoorJg
namespace Go.Proofs.YtmlclccfmlcabaaDoor.jb
open Go.ChangeShapes Go.WideShapes Go.ChangeAt Go.RowKit Go.Proofs.YtmlclccfmlcabaaDoor.cx Go.Proofs.YtmlclccfmlcabaaDoor.ra Go.Proofs.YtmlclccfmlcabaaDoor.rb Go.Proofs.YtmlclccfmlcabaaDoor.rc Go.Proofs.YtmlclccfmlcabaaDoor.da Go.Proofs.YtmlclccfmlcabaaDoor.ea Go.Proofs.YtmlclccfmlcabaaDoor.eb Go.Proofs.YtmlclccfmlcabaaDoor.ed Go.Proofs.YtmlclccfmlcabaaDoor.fb Go.Proofs.YtmlclccfmlcabaaDoor.ka Go.Proofs.YtmlclccfmlcabaaDoor.kb Go.Proofs.YtmlclccfmlcabaaDoor.kg Go.Proofs.YtmlclccfmlcabaaDoor.kj Go.Proofs.YtmlclccfmlcabaaDoor.oa Go.Proofs.YtmlclccfmlcabaaDoor.os Go.Proofs.YtmlclccfmlcabaaDoor.od Go.Proofs.YtmlclccfmlcabaaDoor.oh Go.Proofs.YtmlclccfmlcabaaDoor.qa Go.Proofs.YtmlclccfmlcabaaDoor.qc Go.Proofs.YtmlclccfmlcabaaDoor.qd Go.Proofs.YtmlclccfmlcabaaDoor.ja Go.Proofs.YtmlclccfmlcabaaDoor.jg
set_option linter.unusedSimpArgs false

def firstB (n : Int) : Bool := decide (1 ≤ n) && decide (n ≤ 1099511627776)
theorem validFirst_any (n : Int) (w : World) : Calls Tryd.prog 20 #[.int .i64 n] w fun e' w' => e' = .returned (.bool (firstB n)) ∧ w = w' := by
  go_enter Tryd.func20, Tryd.ntmps20
  go_wp2
  all_goals
    go_ret
    exact ⟨by unfold firstB; simp [*] <;> omega, rfl⟩
theorem validFirst_b (n : Int) (b : Bool) (hb : firstB n = b) (w : World) : Calls Tryd.prog 20 #[.int .i64 n] w fun e' w' => e' = .returned (.bool b) ∧ w = w' := hb ▸ validFirst_any n w
theorem lastNumber_any (vs : List Value) (l : Lg) (w : World) (h : LogV vs l w) (h1 : -1 ≤ l.first) (h2 : l.first ≤ 1099511627777) (h3 : l.ents.length ≤ 100000) :
    Calls Tryd.prog 12 #[.agg vs.toArray] w fun e' w' => e' = .returned (.int .i64 (lastN l)) ∧ Below w.heap.size w w' := by
  obtain ⟨so, cap, rfl, _⟩ := h.form
  clear h
  have HS : Hid (Sw [] w w) := Lib.hid (sw_nil w)
  go_enter Tryd.func12, Tryd.ntmps12
  go_wp2_with (first
    | (refine wp_load1S _ HS rfl rfl (by first | exact at0 | exact at1 | exact at2 | exact at3 | exact at4 | exact at5) (by rfl) (by decide +kernel) rfl ?_)
    | (refine wp_loadS _ HS rfl rfl (by first | exact at0 | exact at1 | exact at2 | exact at3 | exact at4 | exact at5) (sub_all _) ⟨by decide +kernel, by kernel_rfl⟩ rfl ?_)
    | (have le0 := HS.out.size; refine wp_boxS _ HS rfl rfl rfl ?_; clear HS; intro W0 HS lt0 hb0; clear hb0))
  go_ret
  exact ⟨rfl, HS.out.below⟩
theorem rowB_drop {l : List Ent} {n : Int} {j : Nat} {e : Ent} (h : l[j]? = some e) : rowB (l.drop j) n = (validE e && (e.lsn == n && rowB (l.drop (j + 1)) (n + 1))) := by
  obtain ⟨hi, rfl⟩ := List.getElem?_eq_some_iff.1 h
  rw [List.drop_eq_getElem_cons hi]; rfl
theorem rowB_end {l : List Ent} (n : Int) : rowB (l.drop l.length) n = true := by rw [List.drop_length]; rfl
theorem entValid_b (e : Ent) (b : Bool) (hb : validE e = b) (w : World) (hf : FitsE e) : Calls Tryd.prog 13 #[.agg e.vals.toArray] w fun e' w' => e' = .returned (.bool b) ∧ Below w.heap.size w w' := hb ▸ od.valid_any e w hf
def entsB (l : Lg) : Bool := decide (l.ents.length ≤ 4096) && rowB l.ents l.first
set_option maxHeartbeats 2000000 in
theorem validEntries_any (vs : List Value) (l : Lg) (w : World) (h : LogV vs l w) (hf : FitsL l) (h1 : 1 ≤ l.first) (h2 : l.first ≤ 1099511627776) :
    Calls Tryd.prog 21 #[.agg vs.toArray] w fun e' w' => e' = .returned (.bool (entsB l)) ∧ Below w.heap.size w w' := by
  obtain ⟨so, cap, rfl, hS⟩ := h.form
  have hlen := hS.out.1
  clear h
  have HF := Lib.hid hf
  clear hf
  unfold maxLen at hlen
  have HS : Hid (Sw [] w w) := Lib.hid (sw_nil w)
  by_cases q : l.ents.length ≤ 4096
  rotate_left
  · have E : Hid (entsB l = false) := Lib.hid (by unfold entsB; simp [q])
    have d0 : decide ((4096 : Int) < (l.ents.length : Int)) = true := decide_eq_true (by omega)
    clear q
    go_enter Tryd.func21, Tryd.ntmps21
    go_wp2_with (first
    | (refine wp_load1S _ HS rfl rfl (by first | exact at0 | exact at1 | exact at2 | exact at3 | exact at4 | exact at5) (by rfl) (by decide +kernel) rfl ?_)
    | (refine wp_loadS _ HS rfl rfl (by first | exact at0 | exact at1 | exact at2 | exact at3 | exact at4 | exact at5) (sub_all _) ⟨by decide +kernel, by kernel_rfl⟩ rfl ?_)
    | (have le0 := HS.out.size; refine wp_boxS _ HS rfl rfl rfl ?_; clear HS; intro W0 HS lt0 hb0; clear hb0))
    go_ret
    exact ⟨by rw [E.out]; rfl, HS.out.below⟩
  have E : Hid (entsB l = rowB l.ents l.first) := Lib.hid (by unfold entsB; simp [q])
  have d0 : decide ((4096 : Int) < (l.ents.length : Int)) = false := decide_eq_false (by omega)
  go_enter Tryd.func21, Tryd.ntmps21
  go_wp2_with (first
    | (refine wp_load1S _ HS rfl rfl (by first | exact at0 | exact at1 | exact at2 | exact at3 | exact at4 | exact at5) (by rfl) (by decide +kernel) rfl ?_)
    | (refine wp_loadS _ HS rfl rfl (by first | exact at0 | exact at1 | exact at2 | exact at3 | exact at4 | exact at5) (sub_all _) ⟨by decide +kernel, by kernel_rfl⟩ rfl ?_)
    | (have le0 := HS.out.size; refine wp_boxS _ HS rfl rfl rfl ?_; clear HS; intro W0 HS lt0 hb0; clear hb0))
  clear d0
  go_loopw [12] (fun s12 wr => ∃ j : Nat, j ≤ l.ents.length ∧ s12 = .int .i64 j ∧ Hid (rowB l.ents l.first = rowB (l.ents.drop j) (l.first + j)) ∧ Hid (Sw [(w.heap.size, lvals l.first (.slice so l.ents.length cap) l.dur)] w wr)) (fun s12 _ => l.ents.length - (intOf s12).toNat)
  case atStart => exact ⟨0, by omega, rfl, Lib.hid (by simp), HS⟩
  case round =>
    clear HS
    obtain ⟨j, hj, rfl, HR, HS⟩ := hrel
    by_cases hj2 : j < l.ents.length
    rotate_left
    · obtain rfl : j = l.ents.length := by omega
      go_wp2_with fail
      go_ret
      exact ⟨by rw [E.out, HR.out, rowB_end]; rfl, HS.out.below⟩
    obtain ⟨e, he⟩ : ∃ e, l.ents[j]? = some e := ⟨_, List.getElem?_eq_getElem hj2⟩
    obtain ⟨g, off, rfl, hg, hcap, hc⟩ := Sl.ent hS.out he
    have HC : Hid (∀ k u, e.vals[k]? = some u → wr.cell? ⟨g, off + j * 13 + k, none⟩ = some u) := Lib.hid fun k u hu => (HS.out.below.cell (p := ⟨g, off + j * 13 + k, none⟩) hg).trans (hc k u hu)
    have HE : Hid (rowB (l.ents.drop j) (l.first + j) = (validE e && (e.lsn == l.first + j && rowB (l.ents.drop (j + 1)) (l.first + j + 1)))) := Lib.hid (rowB_drop he)
    have HFE := Lib.hid (HF.out e (List.mem_of_getElem? he))
    have q0 : (0 : Int) ≤ (j : Int) := by omega
    have q1 : (j : Int) < (l.ents.length : Int) := by omega
    clear hc he
    by_cases hq : e.lsn = l.first + j
    rotate_left
    · have z0 : (e.lsn != l.first + ↑j) = true := by simpa using hq
      have ER : Hid (rowB l.ents l.first = false) := Lib.hid (by rw [HR.out, HE.out]; simp [hq])
      clear hq
      go_wp2_with (first
    | (refine wp_load1S _ HS rfl rfl (by first | exact at0 | exact at1 | exact at2 | exact at3 | exact at4 | exact at5) (by rfl) (by decide +kernel) rfl ?_)
    | (refine wp_loadO e.vals HC.out rfl rfl ⟨by decide +kernel, by kernel_rfl⟩ rfl ?_)
    | (have le1 := HS.out.size; refine wp_newS ent0.vals zero_ent HS rfl rfl ?_; clear HS; intro W1 HS lt1 hb1; clear hb1)
    | (refine wp_storeS e.vals HS rfl rfl rfl (by first | exact at0 | exact at1 | exact at2 | exact at3 | exact at4 | exact at5) (by rfl) (evals_one e) ⟨by kernel_rfl, by kernel_rfl⟩ rfl ?_; clear HS; intro Ws HS hSs; clear hSs; simp only [List.set_cons_zero, List.set_cons_succ] at HS)
    | (refine wp_loadS _ HS rfl rfl (by first | exact at0 | exact at1 | exact at2 | exact at3 | exact at4 | exact at5) (sub_all _) ⟨by decide +kernel, by kernel_rfl⟩ rfl ?_)
    | (go_at_call 13; (with_reducible refine (entValid_b e _ HV.out _ HFE.out).mono ?_); rintro ec wc ⟨rfl, hbc⟩; replace HS := Lib.hid (Sw.keep HS.out hbc); clear hbc))
      go_ret
      exact ⟨by rw [E.out, ER.out]; rfl, HS.out.below⟩
    have z0 : (e.lsn != l.first + ↑j) = false := by simpa using hq
    cases hv : validE e
    · have ER : Hid (rowB l.ents l.first = false) := Lib.hid (by rw [HR.out, HE.out, hv]; rfl)
      have HV := Lib.hid hv
      clear hv hq
      go_wp2_with (first
    | (refine wp_load1S _ HS rfl rfl (by first | exact at0 | exact at1 | exact at2 | exact at3 | exact at4 | exact at5) (by rfl) (by decide +kernel) rfl ?_)
    | (refine wp_loadO e.vals HC.out rfl rfl ⟨by decide +kernel, by kernel_rfl⟩ rfl ?_)
    | (have le1 := HS.out.size; refine wp_newS ent0.vals zero_ent HS rfl rfl ?_; clear HS; intro W1 HS lt1 hb1; clear hb1)
    | (refine wp_storeS e.vals HS rfl rfl rfl (by first | exact at0 | exact at1 | exact at2 | exact at3 | exact at4 | exact at5) (by rfl) (evals_one e) ⟨by kernel_rfl, by kernel_rfl⟩ rfl ?_; clear HS; intro Ws HS hSs; clear hSs; simp only [List.set_cons_zero, List.set_cons_succ] at HS)
    | (refine wp_loadS _ HS rfl rfl (by first | exact at0 | exact at1 | exact at2 | exact at3 | exact at4 | exact at5) (sub_all _) ⟨by decide +kernel, by kernel_rfl⟩ rfl ?_)
    | (go_at_call 13; (with_reducible refine (entValid_b e _ HV.out _ HFE.out).mono ?_); rintro ec wc ⟨rfl, hbc⟩; replace HS := Lib.hid (Sw.keep HS.out hbc); clear hbc))
      go_ret
      exact ⟨by rw [E.out, ER.out]; rfl, HS.out.below⟩
    · have ER : Hid (rowB l.ents l.first = rowB (l.ents.drop (j + 1)) (l.first + j + 1)) := Lib.hid (by rw [HR.out, HE.out, hv, beq_iff_eq.2 hq]; rfl)
      have HV := Lib.hid hv
      clear hv hq
      go_wp2_with (first
    | (refine wp_load1S _ HS rfl rfl (by first | exact at0 | exact at1 | exact at2 | exact at3 | exact at4 | exact at5) (by rfl) (by decide +kernel) rfl ?_)
    | (refine wp_loadO e.vals HC.out rfl rfl ⟨by decide +kernel, by kernel_rfl⟩ rfl ?_)
    | (have le1 := HS.out.size; refine wp_newS ent0.vals zero_ent HS rfl rfl ?_; clear HS; intro W1 HS lt1 hb1; clear hb1)
    | (refine wp_storeS e.vals HS rfl rfl rfl (by first | exact at0 | exact at1 | exact at2 | exact at3 | exact at4 | exact at5) (by rfl) (evals_one e) ⟨by kernel_rfl, by kernel_rfl⟩ rfl ?_; clear HS; intro Ws HS hSs; clear hSs; simp only [List.set_cons_zero, List.set_cons_succ] at HS)
    | (refine wp_loadS _ HS rfl rfl (by first | exact at0 | exact at1 | exact at2 | exact at3 | exact at4 | exact at5) (sub_all _) ⟨by decide +kernel, by kernel_rfl⟩ rfl ?_)
    | (go_at_call 13; (with_reducible refine (entValid_b e _ HV.out _ HFE.out).mono ?_); rintro ec wc ⟨rfl, hbc⟩; replace HS := Lib.hid (Sw.keep HS.out hbc); clear hbc))
      go_roundw
      case measure => simp [intOf]; omega
      case rel => exact ⟨j + 1, by omega, by go_num, Lib.hid (by rw [ER.out]; congr 1; omega), Lib.hid (HS.out.sub (by simp))⟩
end Go.Proofs.YtmlclccfmlcabaaDoor.jb
