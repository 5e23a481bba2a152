/- journal: headOf, Bytes of a new log; awake. -/
import Derived.Test.YtmlclccfmlcabaaDoorJf
import Derived.Test.YtmlclccfmlcabaaDoorCu
import Derived.Test.YtmlclccfmlcabaaDoorSr
namespace Go.Proofs.YtmlclccfmlcabaaDoor.jh
open Go.ChangeShapes Go.WideShapes Go.ChangeAt Go.RowKit Go.Proofs.YtmlclccfmlcabaaDoor.cx Go.Proofs.YtmlclccfmlcabaaDoor.ra Go.Proofs.YtmlclccfmlcabaaDoor.rb Go.Proofs.YtmlclccfmlcabaaDoor.rc Go.Proofs.YtmlclccfmlcabaaDoor.da Go.Proofs.YtmlclccfmlcabaaDoor.ea Go.Proofs.YtmlclccfmlcabaaDoor.eb Go.Proofs.YtmlclccfmlcabaaDoor.ed Go.Proofs.YtmlclccfmlcabaaDoor.fb Go.Proofs.YtmlclccfmlcabaaDoor.ka Go.Proofs.YtmlclccfmlcabaaDoor.kb Go.Proofs.YtmlclccfmlcabaaDoor.kg Go.Proofs.YtmlclccfmlcabaaDoor.kj Go.Proofs.YtmlclccfmlcabaaDoor.oa Go.Proofs.YtmlclccfmlcabaaDoor.os Go.Proofs.YtmlclccfmlcabaaDoor.od Go.Proofs.YtmlclccfmlcabaaDoor.oh Go.Proofs.YtmlclccfmlcabaaDoor.qa Go.Proofs.YtmlclccfmlcabaaDoor.qc Go.Proofs.YtmlclccfmlcabaaDoor.qd Go.Proofs.YtmlclccfmlcabaaDoor.ja Go.Proofs.YtmlclccfmlcabaaDoor.jg Go.Proofs.YtmlclccfmlcabaaDoor.cm Go.Proofs.YtmlclccfmlcabaaDoor.cw Go.Proofs.YtmlclccfmlcabaaDoor.cp Go.Proofs.YtmlclccfmlcabaaDoor.cg Go.Proofs.YtmlclccfmlcabaaDoor.ch Go.Proofs.YtmlclccfmlcabaaDoor.cu Go.Proofs.YtmlclccfmlcabaaDoor.sr Go.Proofs.YtmlclccfmlcabaaDoor.jb Go.Proofs.YtmlclccfmlcabaaDoor.jc Go.Proofs.YtmlclccfmlcabaaDoor.jd Go.Proofs.YtmlclccfmlcabaaDoor.je Go.Proofs.YtmlclccfmlcabaaDoor.jf
set_option linter.unusedSimpArgs false

theorem put_8 (s : ByteArray) (n : Int) (w : World) (hs : s.size ≤ 1099511627776) :
    Calls Tryd.prog 27 #[.string s, .int .i64 n, .int .i64 8] w fun e w' => e = .returned (.string (putS s n 8)) ∧ Below w.heap.size w w' := put_yes s n 8 w hs (by decide) (by decide)
theorem headOf_any (n : Int) (w : World) : Calls Tryd.prog 18 #[.int .i64 n] w fun e w' => e = .returned (.string (headP n)) ∧ Below w.heap.size w w' := by
  go_enter Tryd.func18, Tryd.ntmps18
  go_wp2_with (go_at_call 27; (with_reducible refine (put_8 ⟨#[80, 77, 76, 71]⟩ n _ (by decide)).mono ?_); rintro ec wc ⟨rfl, hbc⟩)
  go_ret
  exact ⟨rfl, hbc⟩
theorem zero_builder (W : World) : (zeroValue 64).run Tryd.prog W = .ok (.agg #[.pointer none, .slice none 0 0]) W := by kernel_rfl
theorem isBuilder_new (w : World) : Lib.IsBuilder 64 5 w.heap.size w.heap.size (Lib.byteCells []) (w.alloc (.cells #[.pointer none, .slice none 0 0] 64)) :=
  .inl ⟨Nat.le_refl _, .slice none 0 0, heap_alloc_new w _, World.ownsRow_nil _ _ _ _, by simp [Value.ownBlock]⟩
theorem writeNone_any (w : World) : Calls Tryd.prog 19 #[.slice none 0 0] w fun e w' => e = .returned (.string ⟨#[]⟩) ∧ Below w.heap.size w w' := by
  have hz : w.heap.size ≤ (w.alloc (.cells #[.pointer none, .slice none 0 0] 64)).heap.size := by simp
  have hb0 : Below w.heap.size w (w.alloc (.cells #[.pointer none, .slice none 0 0] 64)) := (Below.refl _ _).alloc (Nat.le_refl _) _
  have HZ := Lib.hid hz
  have HB := Lib.hid hb0
  clear hz hb0
  go_enter Tryd.func19, Tryd.ntmps19
  go_wp2
  go_loop [10] (fun s10 => s10 = .int .i64 0) (fun _ => 0)
  case atStart => rfl
  case round =>
    obtain rfl := hrel
    go_wp2_with (go_at_call 31; refine (Builder_String_any w.heap.size w.heap.size [] _ (isBuilder_new w) HZ.out).mono ?_; rintro ec wc ⟨rfl, hbc⟩)
    go_ret
    exact ⟨rfl, HB.out.trans hbc⟩
theorem fits_new : FitsL newLog := fun e he => by cases he
theorem valid_new : validL newLog = true := by decide +kernel
/-- The bytes of a new log are twenty. -/
theorem bytesNew_any (w : World) (hw : TabOk w) : Calls Tryd.prog 10 #[.agg (lvals 1 (.slice none 0 0) 0).toArray] w fun e w' => ∃ s : ByteArray, e = .returned (.string s) ∧ s.size = 20 ∧ Below w.heap.size w w' := by
  have TB := Lib.hid hw
  have TZ := Lib.hid (tab_size hw)
  clear hw
  have LV : Hid (LogV (lvals 1 (.slice none 0 0) 0) newLog w) := Lib.hid (logV1 w)
  have HS : Hid (Sw [] w w) := Lib.hid (sw_nil w)
  have h20 : (frameV (headP 1)).size = 20 := by
    unfold frameV
    rw [if_pos (by rw [headP_size]; decide)]
    unfold frameS
    rw [putS_size, lenS_size, headP_size]
  have H20 := Lib.hid h20
  have hcat : (9223372036854775807 < (frameV (headP 1)).size) = False := eq_false (by rw [h20]; decide)
  clear h20
  go_enter Tryd.func10, Tryd.ntmps10
  go_wp2_with (first
    | (refine wp_load1S _ HS rfl rfl (by first | exact at0 | exact at1 | exact at2 | exact at3 | exact at4 | exact at5) (by rfl) (by decide +kernel) rfl ?_)
    | (refine wp_loadS _ HS rfl rfl (by first | exact at0 | exact at1 | exact at2 | exact at3 | exact at4 | exact at5) (sub_all _) ⟨by decide +kernel, by kernel_rfl⟩ rfl ?_)
    | (have leb := HS.out.size; refine wp_boxS _ HS rfl rfl rfl ?_; clear HS; intro Wb HS ltb hbb; clear hbb)
    | (go_at_call 11; (with_reducible refine (valid_b _ newLog true valid_new _ (LogV.keep LV.out HS.out.below) fits_new).mono ?_); rintro ec wc ⟨rfl, hbc⟩; replace HS := Lib.hid (Sw.keep HS.out hbc); clear hbc))
  refine wp_region_held_drew (S := Sw _ w) (by kernel_rfl) (Sw.drew HS.out) (fun hHeld => ?_)
  refine wpAnyH_take (i := 0) (v := ?_) rfl (by kernel_rfl) (by kernel_rfl) (by kernel_rfl) (fun _ _ _ h => h) (Or.inl ⟨by rfl, ?_⟩) (by assumption) ?_
  rotate_left
  · (intro W _; go_simp; try with_reducible rfl)
  try simp only [Act.put, List.getElem_toArray, List.getElem_cons_zero, List.setIfInBounds_toArray, List.set_cons_zero, List.set_cons_succ]
  refine wpAnyH_take (i := 1) (v := ?_) rfl (by kernel_rfl) (by kernel_rfl) (by kernel_rfl) (fun _ _ _ h => h) (?_) (by assumption) ?_
  rotate_left
  · (first | exact yields_load1S _ (by rfl) rfl rfl (by first | exact at0 | exact at1 | exact at2 | exact at3 | exact at4 | exact at5) (by rfl) (by decide +kernel) | exact yields_loadS _ (by rfl) rfl rfl (by first | exact at0 | exact at1 | exact at2 | exact at3 | exact at4 | exact at5) (sub_all _) ⟨by decide +kernel, by kernel_rfl⟩ (by rfl))
  try simp only [Act.put, List.getElem_toArray, List.getElem_cons_zero, List.getElem_cons_succ, List.setIfInBounds_toArray, List.set_cons_zero, List.set_cons_succ]
  refine wpAnyH_take (i := 4) (v := ?_) rfl (by kernel_rfl) (by kernel_rfl) (by kernel_rfl) (fun _ _ _ h => h) (Or.inl ⟨by rfl, ?_⟩) (by assumption) ?_
  rotate_left
  · (intro W _; go_simp; try with_reducible rfl)
  try simp only [Act.put, List.getElem_toArray, List.getElem_cons_zero, List.getElem_cons_succ, List.setIfInBounds_toArray, List.set_cons_zero, List.set_cons_succ]
  refine wpAnyH_take (i := 5) (v := ?_) rfl (by kernel_rfl) (by kernel_rfl) (by kernel_rfl) (fun _ _ _ h => h) (?_) (by assumption) ?_
  rotate_left
  · (first | exact yields_load1S _ (by rfl) rfl rfl (by first | exact at0 | exact at1 | exact at2 | exact at3 | exact at4 | exact at5) (by rfl) (by decide +kernel) | exact yields_loadS _ (by rfl) rfl rfl (by first | exact at0 | exact at1 | exact at2 | exact at3 | exact at4 | exact at5) (sub_all _) ⟨by decide +kernel, by kernel_rfl⟩ (by rfl))
  try simp only [Act.put, List.getElem_toArray, List.getElem_cons_zero, List.getElem_cons_succ, List.setIfInBounds_toArray, List.set_cons_zero, List.set_cons_succ]
  refine wpAnyH_ready (rs := [2]) (by kernel_rfl) (by simp) (AllReadyH.cons rfl (fun K hK => ?_) AllReadyH.nil)
  go_simp
  go_wp2_with (go_at_call 18; (with_reducible refine (headOf_any _ _).mono ?_); rintro ec W3_1 ⟨rfl, hbc⟩)
  refine hK.out _ _ (Sw.keep hHeld hbc) (fun hH3_2 => ?_)
  clear hK K
  try simp only [Act.put, List.getElem_toArray, List.getElem_cons_zero, List.getElem_cons_succ, List.setIfInBounds_toArray, List.set_cons_zero, List.set_cons_succ]
  refine wpAnyH_ready (rs := [3]) (by kernel_rfl) (by simp) (AllReadyH.cons rfl (fun K hK => ?_) AllReadyH.nil)
  go_simp
  go_wp2_with (go_at_call 17; (with_reducible refine (frame_any _ _ (tab_below TB.out (Sw.below hH3_2) TZ.out)).mono ?_); rintro ec W3_3 ⟨rfl, hbc⟩)
  refine hK.out _ _ (Sw.keep hH3_2 hbc) (fun hH3_4 => ?_)
  clear hK K
  try simp only [Act.put, List.getElem_toArray, List.getElem_cons_zero, List.getElem_cons_succ, List.setIfInBounds_toArray, List.set_cons_zero, List.set_cons_succ]
  refine wpAnyH_ready (rs := [6]) (by kernel_rfl) (by simp) (AllReadyH.cons rfl (fun K hK => ?_) AllReadyH.nil)
  go_simp
  go_wp2_with (go_at_call 19; (with_reducible refine (writeNone_any _).mono ?_); rintro ec W3_5 ⟨rfl, hbc⟩)
  refine hK.out _ _ (Sw.keep hH3_4 hbc) (fun hH3_6 => ?_)
  clear hK K
  try simp only [Act.put, List.getElem_toArray, List.getElem_cons_zero, List.getElem_cons_succ, List.setIfInBounds_toArray, List.set_cons_zero, List.set_cons_succ]
  refine wpAnyH_take (i := 7) (v := ?_) rfl (by kernel_rfl) (by kernel_rfl) (by kernel_rfl) (fun _ _ _ h => h) (Or.inl ⟨by rfl, ?_⟩) (by assumption) ?_
  rotate_left
  · (intro W _; go_simp; try with_reducible rfl)
  try simp only [Act.put, List.getElem_toArray, List.getElem_cons_zero, List.getElem_cons_succ, List.setIfInBounds_toArray, List.set_cons_zero, List.set_cons_succ]
  refine wpAnyH_take (i := 8) (v := ?_) rfl (by kernel_rfl) (by kernel_rfl) (by kernel_rfl) (fun _ _ _ h => h) (Or.inl ⟨by rfl, ?_⟩) (by assumption) ?_
  rotate_left
  · (intro W _; go_simp; try with_reducible rfl)
  try simp only [Act.put, List.getElem_toArray, List.getElem_cons_zero, List.getElem_cons_succ, List.setIfInBounds_toArray, List.set_cons_zero, List.set_cons_succ]
  refine wpAnyH_done (by kernel_rfl) ?_ _
  have HS := Lib.hid hH3_6

  go_wp2
  go_ret
  refine ⟨_, rfl, ?_, HS.out.below⟩
  show (frameV (headP 1) ++ (⟨#[]⟩ : ByteArray)).size = 20
  rw [ByteArray.size_append, H20.out]; rfl
def noteX : Ent := ⟨0, 8, 0, 0, 0, 0, chg0, ⟨#[120]⟩⟩
theorem fits_noteX : FitsE noteX := by
  unfold FitsE FitsH noteX
  decide
theorem appE : Hid (appendE newLog noteX = 0) := Lib.hid (by decide +kernel)
theorem appN : Hid (appendN newLog noteX = 1) := Lib.hid (by decide +kernel)
theorem lastX : lastL (appendL newLog noteX) = 1 := by decide +kernel
theorem fits_app : FitsL (appendL newLog noteX) := by
  rw [(append_yes appE.out).1]
  intro e he
  rcases List.mem_append.1 he with he | he
  · cases he
  · obtain rfl := List.mem_singleton.1 he
    exact num_fits fits_noteX _
theorem last_b (vs : List Value) (l : Lg) (n : Int) (hn : lastL l = n) (w : World) (h : LogV vs l w) (hf : FitsL l) :
    Calls Tryd.prog 9 #[.agg vs.toArray] w fun e' w' => e' = .returned (.int .i64 n) ∧ Below w.heap.size w w' := hn ▸ last_any vs l w h hf
theorem build_noteX (W : World) : (Instr.build 31 #[(1, .int .i64 8), (7, .string ⟨#[120]⟩)]).run Tryd.prog W = .ok (.agg noteX.vals.toArray) W := by kernel_rfl
theorem build_note (n : Int) (W : World) : (Instr.build 31 #[(0, .int .i64 n), (1, .int .i64 8)]).run Tryd.prog W = .ok (.agg (Ent.vals ⟨n, 8, 0, 0, 0, 0, chg0, ⟨#[]⟩⟩).toArray) W := by kernel_rfl
theorem build_note0 (W : World) : (Instr.build 31 #[(1, .int .i64 8)]).run Tryd.prog W = .ok (.agg (Ent.vals ⟨0, 8, 0, 0, 0, 0, chg0, ⟨#[]⟩⟩).toArray) W := by kernel_rfl
section
variable {ops : Array Oper} {rest : List Oper} {o : Oper} {a : Act} {w : World} {Q : Exit → Act → World → Prop}
theorem wp_buildRun {ty : TypeId} {fs : Array (Nat × Operand)} {vs : Array (Nat × Value)} {v : Value} (hr : ∀ W : World, (Instr.build ty vs).run Tryd.prog W = .ok v W) (ho : o.op = .build ty fs) (hv : fs.map (fun p => (p.1, a.eval p.2)) = vs)
    (hgd : Region.wanted o (yielded ops a.tmps) = true) (h : wpList Tryd.prog ops Q rest (a.put o.dst v) w) : wpList Tryd.prog ops Q (o :: rest) a w :=
  wpList_step fun _ hK => by
    rw [if_pos hgd]
    unfold Oper.wp execOp
    simp only [ho]
    simp only [hv, hr, Sem.run_bind, Result.andThen_ok, Sem.run_pure]
    exact hK _ _ h
end
theorem append_noteX (LX : Lg) (h : appendL newLog noteX = LX) (w : World) : Calls Tryd.prog 5 #[.agg (lvals 1 (.slice none 0 0) 0).toArray, .agg noteX.vals.toArray] w (GivesL w LX [.int .i64 1, .int .i64 0]) := by
  have := append_any _ newLog noteX w (logV1 _) fits_new fits_noteX
  rwa [h, appN.out, appE.out] at this
set_option maxRecDepth 4000 in
set_option maxHeartbeats 4000000 in
theorem awake_any (w : World) (hw : TabOk w) : Calls Tryd.prog 4 #[] w fun e w' => e = .returned (.bool true) ∧ Below w.heap.size w w' := by
  have TB := Lib.hid hw
  have TZ := Lib.hid (tab_size hw)
  clear hw
  have HS : Hid (Sw [] w w) := Lib.hid (sw_nil w)
  obtain ⟨LX, hLX⟩ : ∃ LX, appendL newLog noteX = LX := ⟨_, rfl⟩
  have FX : Hid (FitsL LX) := Lib.hid (hLX ▸ fits_app)
  have LX1 : Hid (lastL LX = 1) := Lib.hid (hLX ▸ lastX)
  have HLX := Lib.hid hLX
  clear hLX
  go_enter Tryd.func4, Tryd.ntmps4
  go_wp2_with (first
    | (refine wp_load1S _ HS rfl rfl (by first | exact at0 | exact at1 | exact at2 | exact at3 | exact at4 | exact at5) (by rfl) (by decide +kernel) rfl ?_)
    | (refine wp_loadS _ HS rfl rfl (by first | exact at0 | exact at1 | exact at2 | exact at3 | exact at4 | exact at5) (sub_all _) ⟨by decide +kernel, by kernel_rfl⟩ rfl ?_)
    | (go_at_call 8; (with_reducible refine (new_any _).mono ?_); rintro ec wc ⟨rfl, hbc⟩; replace HS := Lib.hid (Sw.keep HS.out hbc); clear hbc)
    | (go_at_call 5; (refine (append_noteX LX HLX.out _).mono ?_); rintro ec wc ⟨vs, rfl, hLV, hbc, -⟩; obtain ⟨sA, cA, rfl, hSl⟩ := hLV.form; have LA := Lib.hid hLV; clear hLV hSl; replace HS := Lib.hid (Sw.keep HS.out hbc); clear hbc)
    | (have lA := HS.out.size; refine wp_newS log0 zero_log HS rfl rfl ?_; clear HS; intro WN HS ltN hbN; have HbN := Lib.hid hbN; clear hbN)
    | (refine wp_storeS (lvals LX.first (.slice sA LX.ents.length cA) LX.dur) HS rfl rfl rfl (by first | exact at0 | exact at1 | exact at2 | exact at3 | exact at4 | exact at5) (by rfl) (lvals_one _ _ (one_slice _ _ _)) ⟨by kernel_rfl, by kernel_rfl⟩ rfl ?_; clear HS; intro Ws HS hSs; simp only [List.set_cons_zero, List.set_cons_succ] at HS; have LA2 := Lib.hid (LogV.keep LA.out (StoredAt.below hSs HbN.out (Nat.le_refl _))); clear hSs LA HbN)
    | (go_at_call 9; (with_reducible refine (last_b _ LX 1 LX1.out _ LA2.out FX.out).mono ?_); rintro ec wc ⟨rfl, hbc⟩; replace HS := Lib.hid (Sw.keep HS.out hbc); clear hbc)
    | (go_at_call 10; (with_reducible refine (bytesNew_any _ (tab_below TB.out HS.out.below TZ.out)).mono ?_); rintro ec wc ⟨s, rfl, hs20, hbc⟩; replace HS := Lib.hid (Sw.keep HS.out hbc); clear hbc; have h20 : ((s.size : Int) == 20) = true := by simp; omega))
  go_ret
  exact ⟨rfl, HS.out.below⟩
end Go.Proofs.YtmlclccfmlcabaaDoor.jh
