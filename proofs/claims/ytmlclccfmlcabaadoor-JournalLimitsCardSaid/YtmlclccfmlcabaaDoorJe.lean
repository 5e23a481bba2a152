/- journal: Last, New, Append, Force, cutError, Cut. -/
import Derived.Test.YtmlclccfmlcabaaDoorJc
import Derived.Test.YtmlclccfmlcabaaDoorJd
import Derived.Lib.MinMax
namespace Go.Proofs.YtmlclccfmlcabaaDoor.je
open Go.ChangeShapes Go.WideShapes Go.ChangeAt Go.RowKit Go.Proofs.YtmlclccfmlcabaaDoor.cx Go.Proofs.YtmlclccfmlcabaaDoor.ra Go.Proofs.YtmlclccfmlcabaaDoor.rb Go.Proofs.YtmlclccfmlcabaaDoor.rc Go.Proofs.YtmlclccfmlcabaaDoor.da Go.Proofs.YtmlclccfmlcabaaDoor.ea Go.Proofs.YtmlclccfmlcabaaDoor.eb Go.Proofs.YtmlclccfmlcabaaDoor.ed Go.Proofs.YtmlclccfmlcabaaDoor.fb Go.Proofs.YtmlclccfmlcabaaDoor.ka Go.Proofs.YtmlclccfmlcabaaDoor.kb Go.Proofs.YtmlclccfmlcabaaDoor.kg Go.Proofs.YtmlclccfmlcabaaDoor.kj Go.Proofs.YtmlclccfmlcabaaDoor.oa Go.Proofs.YtmlclccfmlcabaaDoor.os Go.Proofs.YtmlclccfmlcabaaDoor.od Go.Proofs.YtmlclccfmlcabaaDoor.oh Go.Proofs.YtmlclccfmlcabaaDoor.qa Go.Proofs.YtmlclccfmlcabaaDoor.qc Go.Proofs.YtmlclccfmlcabaaDoor.qd Go.Proofs.YtmlclccfmlcabaaDoor.ja Go.Proofs.YtmlclccfmlcabaaDoor.jg Go.Proofs.YtmlclccfmlcabaaDoor.jb Go.Proofs.YtmlclccfmlcabaaDoor.jc Go.Proofs.YtmlclccfmlcabaaDoor.jd
set_option linter.unusedSimpArgs false

theorem own_form {w : World} {base n size : Nat} {e : TypeId} {v : Value} {xs : List Value} (h : w.ownsRow base e size v n xs) : ∃ so k cap, v = .slice so k cap ∧ Hid (k = n) := by
  rcases h.2 with ⟨rfl, rfl⟩ | ⟨g, cap, cur, rfl, _⟩
  · exact ⟨none, 0, 0, rfl, Lib.hid rfl⟩
  · exact ⟨_, n, cap, rfl, Lib.hid rfl⟩
theorem own_one {w : World} {base n size : Nat} {e : TypeId} {v : Value} {xs : List Value} (h : w.ownsRow base e size v n xs) : One v := by
  rcases h.2 with ⟨rfl, _⟩ | ⟨g, cap, cur, rfl, _⟩ <;> rfl
theorem last_max {l : Lg} (h : IsLog l) : lastN l ≤ 1099511627776 := by
  have h1 := h.first2
  unfold lastN
  rcases Nat.eq_zero_or_pos l.ents.length with h0 | h0
  · omega
  · obtain ⟨a, b⟩ := row_at l.ents l.first (l.ents.length - 1) _ h.row (List.getElem?_eq_getElem (by omega))
    have hn : ∀ e : Ent, validE e = true → e.lsn ≤ 1099511627776 := fun e he => by
      unfold validE numsB at he
      simp only [Bool.and_eq_true, decide_eq_true_eq] at he
      omega
    have := hn _ a
    omega
theorem valid_is {l : Lg} (h : validL l = true) : IsLog l := valid_iff.1 h
theorem new_any (w : World) : Calls Tryd.prog 8 #[] w fun e w' => e = .returned (.agg (lvals 1 (.slice none 0 0) 0).toArray) ∧ Below w.heap.size w w' := by
  have HS : Hid (Sw [] w w) := Lib.hid (sw_nil w)
  go_enter Tryd.func8, Tryd.ntmps8
  go_wp2_with (first
    | (refine wp_load1S _ HS rfl rfl (by first | exact at0 | exact at1 | exact at2 | exact at3 | exact at4 | exact at5) (by rfl) (by decide +kernel) rfl ?_)
    | (refine wp_loadS _ HS rfl rfl (by first | exact at0 | exact at1 | exact at2 | exact at3 | exact at4 | exact at5) (sub_all _) ⟨by decide +kernel, by kernel_rfl⟩ rfl ?_)
    | (have len := HS.out.size; refine wp_newS log0 zero_log HS rfl rfl ?_; clear HS; intro Wn HS ltn hbn; clear hbn)
    | (refine wp_storeS (lvals 1 (.slice none 0 0) 0) HS rfl rfl rfl (by first | exact at0 | exact at1 | exact at2 | exact at3 | exact at4 | exact at5) (by rfl) rfl ⟨by kernel_rfl, by kernel_rfl⟩ rfl ?_; clear HS; intro Ws HS hSs; clear hSs; simp only [List.set_cons_zero, List.set_cons_succ] at HS))
  refine bodyPost_ret (resS1 rfl HS rfl at0 ⟨by decide +kernel, by kernel_rfl⟩) rfl ⟨rfl, HS.out.below⟩
theorem last_any (vs : List Value) (l : Lg) (w : World) (h : LogV vs l w) (hf : FitsL l) :
    Calls Tryd.prog 9 #[.agg vs.toArray] w fun e' w' => e' = .returned (.int .i64 (lastL l)) ∧ Below w.heap.size w w' := by
  have LV := Lib.hid h
  obtain ⟨so, cap, rfl, _⟩ := h.form
  clear h
  have HF := Lib.hid hf
  clear hf
  have HS : Hid (Sw [] w w) := Lib.hid (sw_nil w)
  cases c1 : validL l
  · have E : Hid (lastL l = 0) := Lib.hid (by unfold lastL; rw [c1]; rfl)
    have C1 := Lib.hid c1
    clear c1
    go_enter Tryd.func9, Tryd.ntmps9
    go_wp2_with (first
    | (refine wp_load1S _ HS rfl rfl (by first | exact at0 | exact at1 | exact at2 | exact at3 | exact at4 | exact at5) (by rfl) (by decide +kernel) rfl ?_)
    | (refine wp_loadS _ HS rfl rfl (by first | exact at0 | exact at1 | exact at2 | exact at3 | exact at4 | exact at5) (sub_all _) ⟨by decide +kernel, by kernel_rfl⟩ rfl ?_)
    | (have leb := HS.out.size; refine wp_boxS _ HS rfl rfl rfl ?_; clear HS; intro Wb HS ltb hbb; clear hbb)
    | (have len := HS.out.size; refine wp_newS log0 zero_log HS rfl rfl ?_; clear HS; intro Wn HS ltn hbn; clear hbn)
    | (go_at_call 11; (with_reducible refine (valid_b _ l false C1.out _ (LogV.keep LV.out HS.out.below) HF.out).mono ?_); rintro ec wc ⟨rfl, hbc⟩; replace HS := Lib.hid (Sw.keep HS.out hbc); clear hbc))
    go_ret
    exact ⟨by rw [E.out]; rfl, HS.out.below⟩
  · have E : Hid (lastL l = lastN l) := Lib.hid (by unfold lastL; rw [c1]; rfl)
    obtain ⟨i1, i2, i3, -, i5, i6⟩ := valid_is c1
    have C1 := Lib.hid c1
    clear c1
    go_enter Tryd.func9, Tryd.ntmps9
    go_wp2_with (first
    | (refine wp_load1S _ HS rfl rfl (by first | exact at0 | exact at1 | exact at2 | exact at3 | exact at4 | exact at5) (by rfl) (by decide +kernel) rfl ?_)
    | (refine wp_loadS _ HS rfl rfl (by first | exact at0 | exact at1 | exact at2 | exact at3 | exact at4 | exact at5) (sub_all _) ⟨by decide +kernel, by kernel_rfl⟩ rfl ?_)
    | (have leb := HS.out.size; refine wp_boxS _ HS rfl rfl rfl ?_; clear HS; intro Wb HS ltb hbb; clear hbb)
    | (have len := HS.out.size; refine wp_newS log0 zero_log HS rfl rfl ?_; clear HS; intro Wn HS ltn hbn; clear hbn)
    | (go_at_call 11; (with_reducible refine (valid_b _ l true C1.out _ (LogV.keep LV.out HS.out.below) HF.out).mono ?_); rintro ec wc ⟨rfl, hbc⟩; replace HS := Lib.hid (Sw.keep HS.out hbc); clear hbc)
    | (go_at_call 12; (with_reducible refine (lastNumber_any _ l _ (LogV.keep LV.out HS.out.below) (by omega) (by omega) (by omega)).mono ?_); rintro ec wc ⟨rfl, hbc⟩; replace HS := Lib.hid (Sw.keep HS.out hbc); clear hbc))
    go_ret
    exact ⟨by rw [E.out]; rfl, HS.out.below⟩
/-- A log value whose row is new. -/
def FreshL (w : World) (vs : List Value) : Prop := ∀ g, (vs.getD 1 undef).ownBlock = some g → w.heap.size ≤ g
theorem fresh0 (w : World) : FreshL w log0 := fun g h => by cases h
/-- What Append, Force and Cut answer: a log, and more. -/
def GivesL (w : World) (l : Lg) (rest : List Value) (e : Ending) (w' : World) : Prop := ∃ vs : List Value, e = .returned (.tuple (.agg vs.toArray :: rest).toArray) ∧ LogV vs l w' ∧ Below w.heap.size w w' ∧ FreshL w vs
theorem appendE_26 {l : Lg} {e : Ent} (h : validL l = false) : appendE l e = 26 := by unfold appendE; rw [if_pos h]
theorem appendE_21 {l : Lg} {e : Ent} (h : validL l = true) (h2 : l.ents.length = 4096 ∨ lastN l = 1099511627776) : appendE l e = 21 := by unfold appendE; rw [if_neg (by simp [h]), if_pos h2]
theorem appendE_12 {l : Lg} {e : Ent} (h : validL l = true) (h2 : ¬ (l.ents.length = 4096 ∨ lastN l = 1099511627776)) (h3 : validE (numE e (lastN l + 1)) = false) : appendE l e = 12 := by unfold appendE; rw [if_neg (by simp [h]), if_neg h2, if_pos h3]
theorem appendE_0 {l : Lg} {e : Ent} (h : validL l = true) (h2 : ¬ (l.ents.length = 4096 ∨ lastN l = 1099511627776)) (h3 : validE (numE e (lastN l + 1)) = true) : appendE l e = 0 := by unfold appendE; rw [if_neg (by simp [h]), if_neg h2, if_neg (by simp [h3])]
theorem append_no {l : Lg} {e : Ent} {n : Int} (h : appendE l e = n) (hn : n ≠ 0) : appendL l e = noLog ∧ appendN l e = 0 := by
  unfold appendL appendN
  rw [h, if_neg hn, if_neg hn]
  exact ⟨rfl, rfl⟩
theorem append_yes {l : Lg} {e : Ent} (h : appendE l e = 0) : appendL l e = { l with ents := l.ents ++ [numE e (lastN l + 1)] } ∧ appendN l e = lastN l + 1 := by
  unfold appendL appendN
  rw [h, if_pos rfl, if_pos rfl]
  exact ⟨rfl, rfl⟩
theorem num_fits {e : Ent} (h : FitsE e) (n : Int) : FitsE (numE e n) := h
theorem sl_entsAt {T : Nat} {e : Ent} {w : World} (h : RowAt T e.vals w) : Sl (.slice (some ⟨T, 0, none⟩) 1 1) 13 1 (entL [e]) w :=
  ⟨by unfold maxLen; decide, rfl, .inr ⟨T, 0, 1, rfl, Nat.le_refl _, h.lt, fun i u hu => by
    rw [Nat.zero_add]
    exact h.cells i u (by simpa [entL] using hu)⟩⟩
set_option maxRecDepth 4000 in
set_option maxHeartbeats 4000000 in
theorem append_any (vs : List Value) (l : Lg) (e : Ent) (w : World) (h : LogV vs l w) (hf : FitsL l) (he : FitsE e) :
    Calls Tryd.prog 5 #[.agg vs.toArray, .agg e.vals.toArray] w (GivesL w (appendL l e) [.int .i64 (appendN l e), .int .i64 (appendE l e)]) := by
  have LV := Lib.hid h
  obtain ⟨so, cap, rfl, SL⟩ := h.form
  clear h
  have HF := Lib.hid hf
  clear hf
  have HS : Hid (Sw [] w w) := Lib.hid (sw_nil w)
  cases c1 : validL l
  · have E := Lib.hid (appendE_26 (e := e) c1)
    obtain ⟨e1, e2⟩ := append_no E.out (by decide)
    rw [e1, e2, E.out]
    have C1 := Lib.hid c1
    clear c1 e1 e2
    go_enter Tryd.func5, Tryd.ntmps5
    go_wp2_with (first
    | (refine wp_load1S _ HS rfl rfl (by first | exact at0 | exact at1 | exact at2 | exact at3 | exact at4 | exact at5) (by rfl) (by decide +kernel) rfl ?_)
    | (refine wp_loadS _ HS rfl rfl (by first | exact at0 | exact at1 | exact at2 | exact at3 | exact at4 | exact at5) (sub_all _) ⟨by decide +kernel, by kernel_rfl⟩ rfl ?_)
    | (have leb := HS.out.size; refine wp_boxS _ HS rfl rfl rfl ?_; clear HS; intro Wb HS ltb hbb; clear hbb)
    | (have len := HS.out.size; refine wp_newS log0 zero_log HS rfl rfl ?_; clear HS; intro Wn HS ltn hbn; clear hbn)
    | (go_at_call 11; (with_reducible refine (valid_b _ l false C1.out _ (LogV.keep LV.out HS.out.below) HF.out).mono ?_); rintro ec wc ⟨rfl, hbc⟩; replace HS := Lib.hid (Sw.keep HS.out hbc); clear hbc)
    | (refine wp_storeS log0 HS rfl rfl rfl (by first | exact at0 | exact at1 | exact at2 | exact at3 | exact at4 | exact at5) (by rfl) rfl ⟨by kernel_rfl, by kernel_rfl⟩ rfl ?_; clear HS; intro Ws HS hSs; clear hSs; simp only [List.set_cons_zero, List.set_cons_succ] at HS))
    refine bodyPost_ret (resS3 rfl HS rfl at0 ⟨by decide +kernel, by kernel_rfl⟩) rfl ⟨log0, rfl, logV0 _, HS.out.below, fresh0 _⟩
  have hmx := last_max (valid_is c1)
  obtain ⟨i1, i2, i3, -, i5, i6⟩ := valid_is c1
  have hL1 : lastN l + 1 = l.first + (l.ents.length : Int) := by unfold lastN; omega
  have C1 := Lib.hid c1
  by_cases c2 : l.ents.length = 4096
  · have E := Lib.hid (appendE_21 (e := e) c1 (.inl c2))
    obtain ⟨e1, e2⟩ := append_no E.out (by decide)
    rw [e1, e2, E.out]
    clear c1 e1 e2
    have g1 : -10 ≤ lastN l := by omega
    have g2 : lastN l ≤ 1099511635000 := by omega
    have d0 : ((l.ents.length : Int) == 4096) = true := by simp; omega
    clear hL1 c2
    go_enter Tryd.func5, Tryd.ntmps5
    go_wp2_with (first
    | (refine wp_load1S _ HS rfl rfl (by first | exact at0 | exact at1 | exact at2 | exact at3 | exact at4 | exact at5) (by rfl) (by decide +kernel) rfl ?_)
    | (refine wp_loadS _ HS rfl rfl (by first | exact at0 | exact at1 | exact at2 | exact at3 | exact at4 | exact at5) (sub_all _) ⟨by decide +kernel, by kernel_rfl⟩ rfl ?_)
    | (have hqL := HS.out.size; clear hqL; have leL := HS.out.size; refine wp_boxS (lvals l.first (.slice so l.ents.length cap) l.dur) HS rfl rfl rfl ?_; clear HS; intro WL HS ltL hbL; clear hbL)
    | (have hqE := HS.out.size; clear hqE; have leE := HS.out.size; refine wp_boxS e.vals HS rfl rfl rfl ?_; clear HS; intro WE HS ltE hbE; clear hbE)
    | (have leN := HS.out.size; refine wp_newS log0 zero_log HS rfl rfl ?_; clear HS; intro WN HS ltN hbN; clear hbN)
    | (go_at_call 11; (with_reducible refine (valid_b _ l true C1.out _ (LogV.keep LV.out HS.out.below) HF.out).mono ?_); rintro ec wc ⟨rfl, hbc⟩; replace HS := Lib.hid (Sw.keep HS.out hbc); clear hbc)
    | (go_at_call 12; (with_reducible refine (lastNumber_any _ l _ (LogV.keep LV.out HS.out.below) (by omega) (by omega) (by omega)).mono ?_); rintro ec wc ⟨rfl, hbc⟩; replace HS := Lib.hid (Sw.keep HS.out hbc); clear hbc)
    | (refine wp_store1S (us := (numE e (lastN l + 1)).vals) _ HS rfl rfl rfl (by first | exact at0 | exact at1 | exact at2 | exact at3 | exact at4 | exact at5) (of_decide_eq_true (by rfl)) (by rfl) rfl rfl ⟨by kernel_rfl, by kernel_rfl⟩ rfl ?_; clear HS; intro Ws HS hSs; simp only [List.set_cons_zero, List.set_cons_succ] at HS; clear hSs)
    | (refine wp_storeS log0 HS rfl rfl rfl (by first | exact at0 | exact at1 | exact at2 | exact at3 | exact at4 | exact at5) (by rfl) rfl ⟨by kernel_rfl, by kernel_rfl⟩ rfl ?_; clear HS; intro Ws HS hSs; clear hSs; simp only [List.set_cons_zero, List.set_cons_succ] at HS))
    refine bodyPost_ret (resS3 rfl HS rfl at0 ⟨by decide +kernel, by kernel_rfl⟩) rfl ⟨log0, rfl, logV0 _, HS.out.below, fresh0 _⟩
  have d0 : ((l.ents.length : Int) == 4096) = false := by simp; omega
  by_cases c3 : lastN l = 1099511627776
  · have E := Lib.hid (appendE_21 (e := e) c1 (.inr c3))
    obtain ⟨e1, e2⟩ := append_no E.out (by decide)
    rw [e1, e2, E.out]
    clear c1 e1 e2
    have g1 : -10 ≤ lastN l := by omega
    have g2 : lastN l ≤ 1099511635000 := by omega
    have g3 : 1099511627776 ≤ lastN l := by omega
    have g4 : 1099511627776 < (numE e (lastN l + 1)).lsn := by show 1099511627776 < lastN l + 1; omega
    clear hL1 c2 c3
    go_enter Tryd.func5, Tryd.ntmps5
    go_wp2_with (first
    | (refine wp_load1S _ HS rfl rfl (by first | exact at0 | exact at1 | exact at2 | exact at3 | exact at4 | exact at5) (by rfl) (by decide +kernel) rfl ?_)
    | (refine wp_loadS _ HS rfl rfl (by first | exact at0 | exact at1 | exact at2 | exact at3 | exact at4 | exact at5) (sub_all _) ⟨by decide +kernel, by kernel_rfl⟩ rfl ?_)
    | (have hqL := HS.out.size; clear hqL; have leL := HS.out.size; refine wp_boxS (lvals l.first (.slice so l.ents.length cap) l.dur) HS rfl rfl rfl ?_; clear HS; intro WL HS ltL hbL; clear hbL)
    | (have hqE := HS.out.size; clear hqE; have leE := HS.out.size; refine wp_boxS e.vals HS rfl rfl rfl ?_; clear HS; intro WE HS ltE hbE; clear hbE)
    | (have leN := HS.out.size; refine wp_newS log0 zero_log HS rfl rfl ?_; clear HS; intro WN HS ltN hbN; clear hbN)
    | (go_at_call 11; (with_reducible refine (valid_b _ l true C1.out _ (LogV.keep LV.out HS.out.below) HF.out).mono ?_); rintro ec wc ⟨rfl, hbc⟩; replace HS := Lib.hid (Sw.keep HS.out hbc); clear hbc)
    | (go_at_call 12; (with_reducible refine (lastNumber_any _ l _ (LogV.keep LV.out HS.out.below) (by omega) (by omega) (by omega)).mono ?_); rintro ec wc ⟨rfl, hbc⟩; replace HS := Lib.hid (Sw.keep HS.out hbc); clear hbc)
    | (refine wp_store1S (us := (numE e (lastN l + 1)).vals) _ HS rfl rfl rfl (by first | exact at0 | exact at1 | exact at2 | exact at3 | exact at4 | exact at5) (of_decide_eq_true (by rfl)) (by rfl) rfl rfl ⟨by kernel_rfl, by kernel_rfl⟩ rfl ?_; clear HS; intro Ws HS hSs; simp only [List.set_cons_zero, List.set_cons_succ] at HS; clear hSs)
    | (refine wp_storeS log0 HS rfl rfl rfl (by first | exact at0 | exact at1 | exact at2 | exact at3 | exact at4 | exact at5) (by rfl) rfl ⟨by kernel_rfl, by kernel_rfl⟩ rfl ?_; clear HS; intro Ws HS hSs; clear hSs; simp only [List.set_cons_zero, List.set_cons_succ] at HS))
    refine bodyPost_ret (resS3 rfl HS rfl at0 ⟨by decide +kernel, by kernel_rfl⟩) rfl ⟨log0, rfl, logV0 _, HS.out.below, fresh0 _⟩
  have c23 : ¬ (l.ents.length = 4096 ∨ lastN l = 1099511627776) := by rintro (h | h); exact c2 h; exact c3 h
  have HFE := Lib.hid (num_fits he (lastN l + 1))
  have g1 : -10 ≤ lastN l := by omega
  have g2 : lastN l ≤ 1099511627775 := by omega
  have g3 : lastN l < 1099511627776 := by omega
  have g4 : (numE e (lastN l + 1)).lsn ≤ 1099511627776 := by show lastN l + 1 ≤ 1099511627776; omega
  have g5 : l.ents.length ≤ 40000 := by omega
  cases c4 : validE (numE e (lastN l + 1))
  · have E := Lib.hid (appendE_12 (e := e) c1 c23 c4)
    obtain ⟨e1, e2⟩ := append_no E.out (by decide)
    rw [e1, e2, E.out]
    have C3 := Lib.hid c4
    clear c1 e1 e2 hL1 c2 c3 c23 c4
    go_enter Tryd.func5, Tryd.ntmps5
    go_wp2_with (first
    | (refine wp_load1S _ HS rfl rfl (by first | exact at0 | exact at1 | exact at2 | exact at3 | exact at4 | exact at5) (by rfl) (by decide +kernel) rfl ?_)
    | (refine wp_loadS _ HS rfl rfl (by first | exact at0 | exact at1 | exact at2 | exact at3 | exact at4 | exact at5) (sub_all _) ⟨by decide +kernel, by kernel_rfl⟩ rfl ?_)
    | (have hqL := HS.out.size; clear hqL; have leL := HS.out.size; refine wp_boxS (lvals l.first (.slice so l.ents.length cap) l.dur) HS rfl rfl rfl ?_; clear HS; intro WL HS ltL hbL; clear hbL)
    | (have hqE := HS.out.size; clear hqE; have leE := HS.out.size; refine wp_boxS e.vals HS rfl rfl rfl ?_; clear HS; intro WE HS ltE hbE; clear hbE)
    | (have leN := HS.out.size; refine wp_newS log0 zero_log HS rfl rfl ?_; clear HS; intro WN HS ltN hbN; clear hbN)
    | (go_at_call 11; (with_reducible refine (valid_b _ l true C1.out _ (LogV.keep LV.out HS.out.below) HF.out).mono ?_); rintro ec wc ⟨rfl, hbc⟩; replace HS := Lib.hid (Sw.keep HS.out hbc); clear hbc)
    | (go_at_call 12; (with_reducible refine (lastNumber_any _ l _ (LogV.keep LV.out HS.out.below) (by omega) (by omega) (by omega)).mono ?_); rintro ec wc ⟨rfl, hbc⟩; replace HS := Lib.hid (Sw.keep HS.out hbc); clear hbc)
    | (refine wp_store1S (us := (numE e (lastN l + 1)).vals) _ HS rfl rfl rfl (by first | exact at0 | exact at1 | exact at2 | exact at3 | exact at4 | exact at5) (of_decide_eq_true (by rfl)) (by rfl) rfl rfl ⟨by kernel_rfl, by kernel_rfl⟩ rfl ?_; clear HS; intro Ws HS hSs; simp only [List.set_cons_zero, List.set_cons_succ] at HS; clear hSs)
    | (refine wp_storeS log0 HS rfl rfl rfl (by first | exact at0 | exact at1 | exact at2 | exact at3 | exact at4 | exact at5) (by rfl) rfl ⟨by kernel_rfl, by kernel_rfl⟩ rfl ?_; clear HS; intro Ws HS hSs; clear hSs; simp only [List.set_cons_zero, List.set_cons_succ] at HS)
    | (go_at_call 13; (with_reducible refine (entValid_b _ false C3.out _ HFE.out).mono ?_); rintro ec wc ⟨rfl, hbc⟩; replace HS := Lib.hid (Sw.keep HS.out hbc); clear hbc))
    refine bodyPost_ret (resS3 rfl HS rfl at0 ⟨by decide +kernel, by kernel_rfl⟩) rfl ⟨log0, rfl, logV0 _, HS.out.below, fresh0 _⟩
  have E := Lib.hid (appendE_0 (e := e) c1 c23 c4)
  obtain ⟨e1, e2⟩ := append_yes E.out
  rw [e1, e2, E.out]
  have C3 := Lib.hid c4
  clear c1 e1 e2 hL1 c2 c3 c23 c4
  go_enter Tryd.func5, Tryd.ntmps5
  go_upto_region 9 with (first
    | (refine wp_load1S _ HS rfl rfl (by first | exact at0 | exact at1 | exact at2 | exact at3 | exact at4 | exact at5) (by rfl) (by decide +kernel) rfl ?_)
    | (refine wp_loadS _ HS rfl rfl (by first | exact at0 | exact at1 | exact at2 | exact at3 | exact at4 | exact at5) (sub_all _) ⟨by decide +kernel, by kernel_rfl⟩ rfl ?_)
    | (have hqL := HS.out.size; clear hqL; have leL := HS.out.size; refine wp_boxS (lvals l.first (.slice so l.ents.length cap) l.dur) HS rfl rfl rfl ?_; clear HS; intro WL HS ltL hbL; clear hbL)
    | (have hqE := HS.out.size; clear hqE; have leE := HS.out.size; refine wp_boxS e.vals HS rfl rfl rfl ?_; clear HS; intro WE HS ltE hbE; clear hbE)
    | (have leN := HS.out.size; refine wp_newS log0 zero_log HS rfl rfl ?_; clear HS; intro WN HS ltN hbN; clear hbN)
    | (go_at_call 11; (with_reducible refine (valid_b _ l true C1.out _ (LogV.keep LV.out HS.out.below) HF.out).mono ?_); rintro ec wc ⟨rfl, hbc⟩; replace HS := Lib.hid (Sw.keep HS.out hbc); clear hbc)
    | (go_at_call 12; (with_reducible refine (lastNumber_any _ l _ (LogV.keep LV.out HS.out.below) (by omega) (by omega) (by omega)).mono ?_); rintro ec wc ⟨rfl, hbc⟩; replace HS := Lib.hid (Sw.keep HS.out hbc); clear hbc)
    | (refine wp_store1S (us := (numE e (lastN l + 1)).vals) _ HS rfl rfl rfl (by first | exact at0 | exact at1 | exact at2 | exact at3 | exact at4 | exact at5) (of_decide_eq_true (by rfl)) (by rfl) rfl rfl ⟨by kernel_rfl, by kernel_rfl⟩ rfl ?_; clear HS; intro Ws HS hSs; simp only [List.set_cons_zero, List.set_cons_succ] at HS; clear hSs)
    | (go_at_call 13; (with_reducible refine (entValid_b _ true C3.out _ HFE.out).mono ?_); rintro ec wc ⟨rfl, hbc⟩; replace HS := Lib.hid (Sw.keep HS.out hbc); clear hbc)
    | (refine wp_buildE1W (numE e (lastN l + 1)) rfl rfl rfl ?_; intro WB hRB hbB ltB; replace HS := Lib.hid (Sw.first HS.out hbB hRB); clear hRB hbB)
    | (refine wp_buildS2W so _ l.ents.length cap 1 1 rfl rfl rfl rfl ?_; intro WC hRC hbC ltC; replace HS := Lib.hid (Sw.first HS.out hbC hRC); clear hRC hbC; have szC := HS.out.size)
    | (go_at_call 14; refine (concat_any _ _ l.ents [numE e (lastN l + 1)] so _ cap 1 _ (SL.out.keep HS.out.below) (sl_entsAt (HS.out.row at1)) ((HS.out.row at0).cells 0 _ rfl) ((HS.out.row at0).cells 1 _ rfl) g5 (by show 1 ≤ 40000; decide)).mono ?_; rintro ec WD ⟨vN, rfl, hO, hbD⟩; obtain ⟨sN, kN, cN, rfl, HkN⟩ := own_form hO; have hlow : ∀ g, Value.ownBlock (.slice sN kN cN) = some g → w.heap.size < g ∧ WE.heap.size < g := (fun g hg => by have h1 := (hO.lt g hg).1; have h2 := (HS.out.row at4).lt; have h3 := (HS.out.row at2).lt; omega); have HLO := Lib.hid hlow; replace HS := Lib.hid (Sw.tail (Sw.tail (Sw.keep HS.out hbD))); have HO := Lib.hid hO; have HONE : Hid (One (.slice sN kN cN)) := Lib.hid (own_one hO); clear hO hbD hlow)
    | (refine wp_store1S (us := (lvals l.first (.slice sN kN cN) l.dur)) _ HS rfl rfl rfl (by first | exact at0 | exact at1 | exact at2 | exact at3 | exact at4 | exact at5) (of_decide_eq_true (by rfl)) (by rfl) rfl rfl ⟨by kernel_rfl, by kernel_rfl⟩ rfl ?_; clear HS; intro Ws HS hSs; simp only [List.set_cons_zero, List.set_cons_succ] at HS; have HO2 := Lib.hid (own_storedNe HO.out hSs (fun g hg => by have := HLO.out g hg; omega)); clear hSs HO))
  have lS := Sw.drew HS.out
  refine wp_region_held_drew (S := Sw _ w) (by kernel_rfl) (Sw.drew (Sw.tail HS.out)) (fun hHeld => ?_)
  refine wpAnyH_take (i := 0) (v := ?_) rfl (by kernel_rfl) (by kernel_rfl) (by kernel_rfl) (fun _ _ _ h => h) (?_) (by assumption) ?_
  rotate_left
  · (first | exact yields_load1S _ (by rfl) rfl rfl (by first | exact at0 | exact at1 | exact at2 | exact at3 | exact at4 | exact at5) (by rfl) (by decide +kernel) | exact yields_loadS _ (by rfl) rfl rfl (by first | exact at0 | exact at1 | exact at2 | exact at3 | exact at4 | exact at5) (sub_all _) ⟨by decide +kernel, by kernel_rfl⟩ (by rfl))
  try simp only [Act.put, List.getElem_toArray, List.getElem_cons_zero, List.setIfInBounds_toArray, List.set_cons_zero, List.set_cons_succ]
  refine wpAnyH_take (i := 1) (v := ?_) rfl (by kernel_rfl) (by kernel_rfl) (by kernel_rfl) (fun _ _ _ h => h) (Or.inl ⟨by rfl, ?_⟩) (by assumption) ?_
  rotate_left
  · (intro W _; go_simp; try with_reducible rfl)
  try simp only [Act.put, List.getElem_toArray, List.getElem_cons_zero, List.getElem_cons_succ, List.setIfInBounds_toArray, List.set_cons_zero, List.set_cons_succ]
  refine wpAnyH_take (i := 2) (v := ?_) rfl (by kernel_rfl) (by kernel_rfl) (by kernel_rfl) (fun _ _ _ h => h) (?_) (by assumption) ?_
  rotate_left
  · (first | exact yields_load1S _ (by rfl) rfl rfl (by first | exact at0 | exact at1 | exact at2 | exact at3 | exact at4 | exact at5) (by rfl) (by decide +kernel) | exact yields_loadS _ (by rfl) rfl rfl (by first | exact at0 | exact at1 | exact at2 | exact at3 | exact at4 | exact at5) (sub_all _) ⟨by decide +kernel, by kernel_rfl⟩ (by rfl))
  try simp only [Act.put, List.getElem_toArray, List.getElem_cons_zero, List.getElem_cons_succ, List.setIfInBounds_toArray, List.set_cons_zero, List.set_cons_succ]
  refine wpAnyH_ready (rs := [3]) (by kernel_rfl) (by simp) (AllReadyH.cons rfl (fun K hK => ?_) AllReadyH.nil)
  simp only [List.getElem_toArray, List.getElem_cons_zero, List.getElem_cons_succ]
  rw [if_pos (by rfl)]
  with_reducible refine op_storeS (lvals l.first (.slice sN kN cN) l.dur) lS (by rfl) ?_ ?_ at0 rfl (lvals_one _ _ HONE.out) (sizeTy_mk (by kernel_rfl) (by kernel_rfl)) (fun W9_1 hN hSt => ?_)
  · rfl
  · rfl
  simp only [List.set_cons_zero] at hN
  have HN := Lib.hid hN
  have hne : ∀ g, Value.ownBlock (.slice sN kN cN) = some g → g ≠ WE.heap.size := fun g hg => by have := HLO.out g hg; omega
  have HO3 := Lib.hid (own_storedNe (own_keep HO2.out (Below.refl _ _).drew) hSt hne)
  refine hK.out _ _ (Sw.tail hN) (fun hH9_2 => ?_)
  clear hK K
  simp only [Act.put, List.setIfInBounds_toArray, List.set_cons_zero, List.set_cons_succ]
  refine wpAnyH_take (i := 4) (v := ?_) rfl (by kernel_rfl) (by kernel_rfl) (by kernel_rfl) (fun _ _ _ h => h) (Or.inl ⟨by rfl, ?_⟩) (by assumption) ?_
  rotate_left
  · (intro W _; go_simp; try with_reducible rfl)
  try simp only [Act.put, List.getElem_toArray, List.getElem_cons_zero, List.getElem_cons_succ, List.setIfInBounds_toArray, List.set_cons_zero, List.set_cons_succ]
  refine wpAnyH_take (i := 5) (v := ?_) rfl (by kernel_rfl) (by kernel_rfl) (by kernel_rfl) (fun _ _ _ h => h) (Or.inl ⟨by rfl, ?_⟩) (by assumption) ?_
  rotate_left
  · (intro W _; go_simp; try with_reducible rfl)
  try simp only [Act.put, List.getElem_toArray, List.getElem_cons_zero, List.getElem_cons_succ, List.setIfInBounds_toArray, List.set_cons_zero, List.set_cons_succ]
  refine wpAnyH_done (by kernel_rfl) ?_ _

  go_wp2
  refine bodyPost_ret (resS3 rfl HN rfl at0 ⟨by decide +kernel, by kernel_rfl⟩) rfl ⟨_, rfl, ⟨_, rfl, Sl.of_own HO3.out⟩, HN.out.below, fun g hg => Nat.le_of_lt (HLO.out g hg).1⟩
theorem force_no {l : Lg} {n k : Int} (h : forceE l n = k) (hk : k ≠ 0) : forceL l n = noLog := by
  unfold forceL
  rw [h, if_neg hk]
theorem force_yes {l : Lg} {n : Int} (h : forceE l n = 0) : forceL l n = { l with dur := max l.dur n } := by
  unfold forceL
  rw [h, if_pos rfl]
set_option maxRecDepth 4000 in
set_option maxHeartbeats 4000000 in
theorem force_any (vs : List Value) (l : Lg) (n : Int) (w : World) (h : LogV vs l w) (hf : FitsL l) :
    Calls Tryd.prog 6 #[.agg vs.toArray, .int .i64 n] w (GivesL w (forceL l n) [.int .i64 (forceE l n)]) := by
  have LV := Lib.hid h
  obtain ⟨so, cap, rfl, SL⟩ := h.form
  clear h
  have HF := Lib.hid hf
  clear hf
  have HS : Hid (Sw [] w w) := Lib.hid (sw_nil w)
  cases c1 : validL l
  · have E : Hid (forceE l n = 26) := Lib.hid (by unfold forceE; rw [if_pos c1])
    rw [force_no E.out (by decide), E.out]
    have C1 := Lib.hid c1
    clear c1
    go_enter Tryd.func6, Tryd.ntmps6
    go_wp2_with (first
    | (refine wp_load1S _ HS rfl rfl (by first | exact at0 | exact at1 | exact at2 | exact at3 | exact at4 | exact at5) (by rfl) (by decide +kernel) rfl ?_)
    | (refine wp_loadS _ HS rfl rfl (by first | exact at0 | exact at1 | exact at2 | exact at3 | exact at4 | exact at5) (sub_all _) ⟨by decide +kernel, by kernel_rfl⟩ rfl ?_)
    | (have hqL := HS.out.size; clear hqL; have leL := HS.out.size; refine wp_boxS (lvals l.first (.slice so l.ents.length cap) l.dur) HS rfl rfl rfl ?_; clear HS; intro WL HS ltL hbL; clear hbL)
    | (have leN := HS.out.size; refine wp_newS log0 zero_log HS rfl rfl ?_; clear HS; intro WN HS ltN hbN; clear hbN)
    | (go_at_call 11; (with_reducible refine (valid_b _ l false C1.out _ (LogV.keep LV.out HS.out.below) HF.out).mono ?_); rintro ec wc ⟨rfl, hbc⟩; replace HS := Lib.hid (Sw.keep HS.out hbc); clear hbc)
    | (refine wp_storeS log0 HS rfl rfl rfl (by first | exact at0 | exact at1 | exact at2 | exact at3 | exact at4 | exact at5) (by rfl) rfl ⟨by kernel_rfl, by kernel_rfl⟩ rfl ?_; clear HS; intro Ws HS hSs; clear hSs; simp only [List.set_cons_zero, List.set_cons_succ] at HS))
    refine bodyPost_ret (resS2 rfl HS rfl at0 ⟨by decide +kernel, by kernel_rfl⟩) rfl ⟨log0, rfl, logV0 _, HS.out.below, fresh0 _⟩
  have hmx := last_max (valid_is c1)
  obtain ⟨i1, i2, i3, -, i5, i6⟩ := valid_is c1
  have g1 : -10 ≤ lastN l := by unfold lastN; omega
  have g5 : l.ents.length ≤ 100000 := by omega
  have C1 := Lib.hid c1
  by_cases c2 : lastN l < n
  · have E : Hid (forceE l n = 14) := Lib.hid (by unfold forceE; rw [if_neg (by simp [c1]), if_pos c2])
    rw [force_no E.out (by decide), E.out]
    clear c1
    go_enter Tryd.func6, Tryd.ntmps6
    go_wp2_with (first
    | (refine wp_load1S _ HS rfl rfl (by first | exact at0 | exact at1 | exact at2 | exact at3 | exact at4 | exact at5) (by rfl) (by decide +kernel) rfl ?_)
    | (refine wp_loadS _ HS rfl rfl (by first | exact at0 | exact at1 | exact at2 | exact at3 | exact at4 | exact at5) (sub_all _) ⟨by decide +kernel, by kernel_rfl⟩ rfl ?_)
    | (have hqL := HS.out.size; clear hqL; have leL := HS.out.size; refine wp_boxS (lvals l.first (.slice so l.ents.length cap) l.dur) HS rfl rfl rfl ?_; clear HS; intro WL HS ltL hbL; clear hbL)
    | (have leN := HS.out.size; refine wp_newS log0 zero_log HS rfl rfl ?_; clear HS; intro WN HS ltN hbN; clear hbN)
    | (go_at_call 11; (with_reducible refine (valid_b _ l true C1.out _ (LogV.keep LV.out HS.out.below) HF.out).mono ?_); rintro ec wc ⟨rfl, hbc⟩; replace HS := Lib.hid (Sw.keep HS.out hbc); clear hbc)
    | (go_at_call 12; (with_reducible refine (lastNumber_any _ l _ (LogV.keep LV.out HS.out.below) (by omega) (by omega) (by omega)).mono ?_); rintro ec wc ⟨rfl, hbc⟩; replace HS := Lib.hid (Sw.keep HS.out hbc); clear hbc)
    | (refine wp_storeS log0 HS rfl rfl rfl (by first | exact at0 | exact at1 | exact at2 | exact at3 | exact at4 | exact at5) (by rfl) rfl ⟨by kernel_rfl, by kernel_rfl⟩ rfl ?_; clear HS; intro Ws HS hSs; clear hSs; simp only [List.set_cons_zero, List.set_cons_succ] at HS))
    refine bodyPost_ret (resS2 rfl HS rfl at0 ⟨by decide +kernel, by kernel_rfl⟩) rfl ⟨log0, rfl, logV0 _, HS.out.below, fresh0 _⟩
  have E : Hid (forceE l n = 0) := Lib.hid (by unfold forceE; rw [if_neg (by simp [c1]), if_neg c2])
  rw [force_yes E.out, E.out]
  have c2' : n ≤ lastN l := by omega
  clear c1 c2
  go_enter Tryd.func6, Tryd.ntmps6
  go_wp2_with (first
    | (refine wp_load1S _ HS rfl rfl (by first | exact at0 | exact at1 | exact at2 | exact at3 | exact at4 | exact at5) (by rfl) (by decide +kernel) rfl ?_)
    | (refine wp_loadS _ HS rfl rfl (by first | exact at0 | exact at1 | exact at2 | exact at3 | exact at4 | exact at5) (sub_all _) ⟨by decide +kernel, by kernel_rfl⟩ rfl ?_)
    | (have hqL := HS.out.size; clear hqL; have leL := HS.out.size; refine wp_boxS (lvals l.first (.slice so l.ents.length cap) l.dur) HS rfl rfl rfl ?_; clear HS; intro WL HS ltL hbL; clear hbL)
    | (have leN := HS.out.size; refine wp_newS log0 zero_log HS rfl rfl ?_; clear HS; intro WN HS ltN hbN; clear hbN)
    | (go_at_call 11; (with_reducible refine (valid_b _ l true C1.out _ (LogV.keep LV.out HS.out.below) HF.out).mono ?_); rintro ec wc ⟨rfl, hbc⟩; replace HS := Lib.hid (Sw.keep HS.out hbc); clear hbc)
    | (go_at_call 12; (with_reducible refine (lastNumber_any _ l _ (LogV.keep LV.out HS.out.below) (by omega) (by omega) (by omega)).mono ?_); rintro ec wc ⟨rfl, hbc⟩; replace HS := Lib.hid (Sw.keep HS.out hbc); clear hbc)
    | (go_at_call 15; refine (clone_ent _ l.ents.length _ _ (SL.out.keep HS.out.below) (entL_one _) g5).mono ?_; rintro ec WD ⟨vN, rfl, hO, hbD⟩; obtain ⟨sN, kN, cN, rfl, HkN⟩ := own_form hO; have hlow : ∀ g, Value.ownBlock (.slice sN kN cN) = some g → w.heap.size < g ∧ WL.heap.size < g := (fun g hg => by have h1 := (hO.lt g hg).1; have h2 := (HS.out.row at0).lt; have h3 := (HS.out.row at1).lt; omega); have HLO := Lib.hid hlow; replace HS := Lib.hid (Sw.keep HS.out hbD); have HO := Lib.hid hO; have HONE : Hid (One (.slice sN kN cN)) := Lib.hid (own_one hO); clear hO hbD hlow)
    | (refine wp_store1S (us := (lvals l.first (.slice sN kN cN) l.dur)) _ HS rfl rfl rfl (by first | exact at0 | exact at1 | exact at2 | exact at3 | exact at4 | exact at5) (of_decide_eq_true (by rfl)) (by rfl) rfl rfl ⟨by kernel_rfl, by kernel_rfl⟩ rfl ?_; clear HS; intro Ws HS hSs; simp only [List.set_cons_zero, List.set_cons_succ] at HS; have HO2 := Lib.hid (own_storedNe HO.out hSs (fun g hg => by have := HLO.out g hg; omega)); clear hSs HO)
    | (refine wp_store1S (us := (lvals l.first (.slice sN kN cN) _)) _ HS rfl rfl rfl (by first | exact at0 | exact at1 | exact at2 | exact at3 | exact at4 | exact at5) (of_decide_eq_true (by rfl)) (by rfl) rfl rfl ⟨by kernel_rfl, by kernel_rfl⟩ rfl ?_; clear HS; intro Ws HS hSs; simp only [List.set_cons_zero, List.set_cons_succ] at HS; have HO3 := Lib.hid (own_storedNe HO2.out hSs (fun g hg => by have := HLO.out g hg; omega)); clear hSs HO2)
    | (refine wp_storeS (lvals l.first (.slice sN kN cN) _) HS rfl rfl rfl (by first | exact at0 | exact at1 | exact at2 | exact at3 | exact at4 | exact at5) (by rfl) (lvals_one _ _ HONE.out) ⟨by kernel_rfl, by kernel_rfl⟩ rfl ?_; clear HS; intro Ws HS hSs; have HO4 := Lib.hid (own_storedNe HO3.out hSs (fun g hg => by have := HLO.out g hg; omega)); clear hSs HO3; simp only [List.set_cons_zero, List.set_cons_succ] at HS))
  refine bodyPost_ret (resS2 rfl HS rfl at0 ⟨by decide +kernel, by kernel_rfl⟩) rfl ⟨_, rfl, ⟨_, rfl, Sl.of_own HO4.out⟩, HS.out.below, fun g hg => Nat.le_of_lt (HLO.out g hg).1⟩
theorem cut_no {l : Lg} {n k : Int} (h : cutE l n = k) (hk : k ≠ 0) : cutL l n = noLog := by
  unfold cutL
  rw [h, if_neg hk]
theorem cut_yes {l : Lg} {n : Int} (h : cutE l n = 0) : cutL l n = { l with first := n, ents := l.ents.drop (n - l.first).toNat } := by
  unfold cutL
  rw [h, if_pos rfl]
theorem cutE_in {l : Lg} {n : Int} (h : cutE l n = 0) : validL l = true ∧ l.first ≤ n ∧ n ≤ lastN l + 1 ∧ n ≤ 1099511627776 ∧ n ≤ l.dur + 1 := by
  unfold cutE at h
  split at h
  · cases h
  split at h
  · cases h
  split at h
  · cases h
  · rename_i a b c
    refine ⟨by simpa using a, by omega, by omega, by omega, by omega⟩
set_option maxRecDepth 4000 in
set_option maxHeartbeats 4000000 in
theorem cutError_any (vs : List Value) (l : Lg) (n : Int) (w : World) (h : LogV vs l w) (hf : FitsL l) :
    Calls Tryd.prog 16 #[.agg vs.toArray, .int .i64 n] w fun e w' => e = .returned (.int .i64 (cutE l n)) ∧ Below w.heap.size w w' := by
  have LV := Lib.hid h
  obtain ⟨so, cap, rfl, SL⟩ := h.form
  clear h
  have HF := Lib.hid hf
  clear hf
  have HS : Hid (Sw [] w w) := Lib.hid (sw_nil w)
  cases c1 : validL l
  · have E : Hid (cutE l n = 26) := Lib.hid (by unfold cutE; rw [if_pos c1])
    rw [E.out]
    have C1 := Lib.hid c1
    clear c1
    go_enter Tryd.func16, Tryd.ntmps16
    go_wp2_with (first
    | (refine wp_load1S _ HS rfl rfl (by first | exact at0 | exact at1 | exact at2 | exact at3 | exact at4 | exact at5) (by rfl) (by decide +kernel) rfl ?_)
    | (refine wp_loadS _ HS rfl rfl (by first | exact at0 | exact at1 | exact at2 | exact at3 | exact at4 | exact at5) (sub_all _) ⟨by decide +kernel, by kernel_rfl⟩ rfl ?_)
    | (have hqL := HS.out.size; clear hqL; have leL := HS.out.size; refine wp_boxS (lvals l.first (.slice so l.ents.length cap) l.dur) HS rfl rfl rfl ?_; clear HS; intro WL HS ltL hbL; clear hbL)
    | (go_at_call 11; (with_reducible refine (valid_b _ l false C1.out _ (LogV.keep LV.out HS.out.below) HF.out).mono ?_); rintro ec wc ⟨rfl, hbc⟩; replace HS := Lib.hid (Sw.keep HS.out hbc); clear hbc))
    go_ret
    exact ⟨rfl, HS.out.below⟩
  have hmx := last_max (valid_is c1)
  obtain ⟨i1, i2, i3, -, i5, i6⟩ := valid_is c1
  have g1 : -10 ≤ lastN l := by unfold lastN; omega
  have g6 : l.dur ≤ 1099511627776 := by unfold lastN at hmx; omega
  have C1 := Lib.hid c1
  by_cases c2 : n < l.first
  · have E : Hid (cutE l n = 1) := Lib.hid (by unfold cutE; rw [if_neg (by simp [c1]), if_pos (.inl c2)])
    rw [E.out]
    have z2 : decide (n < l.first) = true := decide_eq_true c2
    clear c1 c2
    go_enter Tryd.func16, Tryd.ntmps16
    go_wp2_with (first
    | (refine wp_load1S _ HS rfl rfl (by first | exact at0 | exact at1 | exact at2 | exact at3 | exact at4 | exact at5) (by rfl) (by decide +kernel) rfl ?_)
    | (refine wp_loadS _ HS rfl rfl (by first | exact at0 | exact at1 | exact at2 | exact at3 | exact at4 | exact at5) (sub_all _) ⟨by decide +kernel, by kernel_rfl⟩ rfl ?_)
    | (have hqL := HS.out.size; clear hqL; have leL := HS.out.size; refine wp_boxS (lvals l.first (.slice so l.ents.length cap) l.dur) HS rfl rfl rfl ?_; clear HS; intro WL HS ltL hbL; clear hbL)
    | (go_at_call 11; (with_reducible refine (valid_b _ l true C1.out _ (LogV.keep LV.out HS.out.below) HF.out).mono ?_); rintro ec wc ⟨rfl, hbc⟩; replace HS := Lib.hid (Sw.keep HS.out hbc); clear hbc)
    | (go_at_call 12; (with_reducible refine (lastNumber_any _ l _ (LogV.keep LV.out HS.out.below) (by omega) (by omega) (by omega)).mono ?_); rintro ec wc ⟨rfl, hbc⟩; replace HS := Lib.hid (Sw.keep HS.out hbc); clear hbc))
    go_ret
    exact ⟨rfl, HS.out.below⟩
  have z2 : decide (n < l.first) = false := decide_eq_false c2
  by_cases c3 : lastN l + 1 < n
  · have E : Hid (cutE l n = 1) := Lib.hid (by unfold cutE; rw [if_neg (by simp [c1]), if_pos (.inr (.inl c3))])
    rw [E.out]
    have z3 : decide (lastN l + 1 < n) = true := decide_eq_true c3
    clear c1 c2 c3
    go_enter Tryd.func16, Tryd.ntmps16
    go_wp2_with (first
    | (refine wp_load1S _ HS rfl rfl (by first | exact at0 | exact at1 | exact at2 | exact at3 | exact at4 | exact at5) (by rfl) (by decide +kernel) rfl ?_)
    | (refine wp_loadS _ HS rfl rfl (by first | exact at0 | exact at1 | exact at2 | exact at3 | exact at4 | exact at5) (sub_all _) ⟨by decide +kernel, by kernel_rfl⟩ rfl ?_)
    | (have hqL := HS.out.size; clear hqL; have leL := HS.out.size; refine wp_boxS (lvals l.first (.slice so l.ents.length cap) l.dur) HS rfl rfl rfl ?_; clear HS; intro WL HS ltL hbL; clear hbL)
    | (go_at_call 11; (with_reducible refine (valid_b _ l true C1.out _ (LogV.keep LV.out HS.out.below) HF.out).mono ?_); rintro ec wc ⟨rfl, hbc⟩; replace HS := Lib.hid (Sw.keep HS.out hbc); clear hbc)
    | (go_at_call 12; (with_reducible refine (lastNumber_any _ l _ (LogV.keep LV.out HS.out.below) (by omega) (by omega) (by omega)).mono ?_); rintro ec wc ⟨rfl, hbc⟩; replace HS := Lib.hid (Sw.keep HS.out hbc); clear hbc))
    go_ret
    exact ⟨rfl, HS.out.below⟩
  have z3 : decide (lastN l + 1 < n) = false := decide_eq_false c3
  cases c4 : firstB n
  · have E : Hid (cutE l n = 1) := Lib.hid (by
      unfold cutE
      have : 1099511627776 < n := by
        unfold firstB at c4
        simp at c4
        omega
      rw [if_neg (by simp [c1]), if_pos (.inr (.inr this))])
    rw [E.out]
    have C4 := Lib.hid c4
    clear c1 c2 c3 c4
    go_enter Tryd.func16, Tryd.ntmps16
    go_wp2_with (first
    | (refine wp_load1S _ HS rfl rfl (by first | exact at0 | exact at1 | exact at2 | exact at3 | exact at4 | exact at5) (by rfl) (by decide +kernel) rfl ?_)
    | (refine wp_loadS _ HS rfl rfl (by first | exact at0 | exact at1 | exact at2 | exact at3 | exact at4 | exact at5) (sub_all _) ⟨by decide +kernel, by kernel_rfl⟩ rfl ?_)
    | (have hqL := HS.out.size; clear hqL; have leL := HS.out.size; refine wp_boxS (lvals l.first (.slice so l.ents.length cap) l.dur) HS rfl rfl rfl ?_; clear HS; intro WL HS ltL hbL; clear hbL)
    | (go_at_call 11; (with_reducible refine (valid_b _ l true C1.out _ (LogV.keep LV.out HS.out.below) HF.out).mono ?_); rintro ec wc ⟨rfl, hbc⟩; replace HS := Lib.hid (Sw.keep HS.out hbc); clear hbc)
    | (go_at_call 12; (with_reducible refine (lastNumber_any _ l _ (LogV.keep LV.out HS.out.below) (by omega) (by omega) (by omega)).mono ?_); rintro ec wc ⟨rfl, hbc⟩; replace HS := Lib.hid (Sw.keep HS.out hbc); clear hbc)
    | (go_at_call 20; (with_reducible refine (validFirst_b n false C4.out _).mono ?_); rintro ec wc ⟨rfl, rfl⟩; skip))
    go_ret
    exact ⟨rfl, HS.out.below⟩
  have c5 := first_in c4
  have C4 := Lib.hid c4
  have hh : ¬ (n < l.first ∨ lastN l + 1 < n ∨ 1099511627776 < n) := by omega
  by_cases c6 : l.dur + 1 < n
  · have E : Hid (cutE l n = 15) := Lib.hid (by unfold cutE; rw [if_neg (by simp [c1]), if_neg hh, if_pos c6])
    rw [E.out]
    clear c1 c2 c3 c4 hh
    go_enter Tryd.func16, Tryd.ntmps16
    go_wp2_with (first
    | (refine wp_load1S _ HS rfl rfl (by first | exact at0 | exact at1 | exact at2 | exact at3 | exact at4 | exact at5) (by rfl) (by decide +kernel) rfl ?_)
    | (refine wp_loadS _ HS rfl rfl (by first | exact at0 | exact at1 | exact at2 | exact at3 | exact at4 | exact at5) (sub_all _) ⟨by decide +kernel, by kernel_rfl⟩ rfl ?_)
    | (have hqL := HS.out.size; clear hqL; have leL := HS.out.size; refine wp_boxS (lvals l.first (.slice so l.ents.length cap) l.dur) HS rfl rfl rfl ?_; clear HS; intro WL HS ltL hbL; clear hbL)
    | (go_at_call 11; (with_reducible refine (valid_b _ l true C1.out _ (LogV.keep LV.out HS.out.below) HF.out).mono ?_); rintro ec wc ⟨rfl, hbc⟩; replace HS := Lib.hid (Sw.keep HS.out hbc); clear hbc)
    | (go_at_call 12; (with_reducible refine (lastNumber_any _ l _ (LogV.keep LV.out HS.out.below) (by omega) (by omega) (by omega)).mono ?_); rintro ec wc ⟨rfl, hbc⟩; replace HS := Lib.hid (Sw.keep HS.out hbc); clear hbc)
    | (go_at_call 20; (with_reducible refine (validFirst_b n true C4.out _).mono ?_); rintro ec wc ⟨rfl, rfl⟩; skip))
    go_ret
    exact ⟨rfl, HS.out.below⟩
  · have E : Hid (cutE l n = 0) := Lib.hid (by unfold cutE; rw [if_neg (by simp [c1]), if_neg hh, if_neg c6])
    rw [E.out]
    have c7 : n ≤ l.dur + 1 := by omega
    clear c1 c2 c3 c4 hh c6
    go_enter Tryd.func16, Tryd.ntmps16
    go_wp2_with (first
    | (refine wp_load1S _ HS rfl rfl (by first | exact at0 | exact at1 | exact at2 | exact at3 | exact at4 | exact at5) (by rfl) (by decide +kernel) rfl ?_)
    | (refine wp_loadS _ HS rfl rfl (by first | exact at0 | exact at1 | exact at2 | exact at3 | exact at4 | exact at5) (sub_all _) ⟨by decide +kernel, by kernel_rfl⟩ rfl ?_)
    | (have hqL := HS.out.size; clear hqL; have leL := HS.out.size; refine wp_boxS (lvals l.first (.slice so l.ents.length cap) l.dur) HS rfl rfl rfl ?_; clear HS; intro WL HS ltL hbL; clear hbL)
    | (go_at_call 11; (with_reducible refine (valid_b _ l true C1.out _ (LogV.keep LV.out HS.out.below) HF.out).mono ?_); rintro ec wc ⟨rfl, hbc⟩; replace HS := Lib.hid (Sw.keep HS.out hbc); clear hbc)
    | (go_at_call 12; (with_reducible refine (lastNumber_any _ l _ (LogV.keep LV.out HS.out.below) (by omega) (by omega) (by omega)).mono ?_); rintro ec wc ⟨rfl, hbc⟩; replace HS := Lib.hid (Sw.keep HS.out hbc); clear hbc)
    | (go_at_call 20; (with_reducible refine (validFirst_b n true C4.out _).mono ?_); rintro ec wc ⟨rfl, rfl⟩; skip))
    go_ret
    exact ⟨rfl, HS.out.below⟩
end Go.Proofs.YtmlclccfmlcabaaDoor.je
