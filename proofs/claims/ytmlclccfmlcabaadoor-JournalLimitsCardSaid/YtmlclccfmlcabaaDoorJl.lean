/- JournalLimits. -/
import Derived.Test.YtmlclccfmlcabaaDoorJh
namespace Go.Proofs.YtmlclccfmlcabaaDoor.jl
open Go.ChangeShapes Go.WideShapes Go.ChangeAt Go.RowKit Go.Proofs.YtmlclccfmlcabaaDoor.cx Go.Proofs.YtmlclccfmlcabaaDoor.ra Go.Proofs.YtmlclccfmlcabaaDoor.rb Go.Proofs.YtmlclccfmlcabaaDoor.rc Go.Proofs.YtmlclccfmlcabaaDoor.da Go.Proofs.YtmlclccfmlcabaaDoor.ea Go.Proofs.YtmlclccfmlcabaaDoor.eb Go.Proofs.YtmlclccfmlcabaaDoor.ed Go.Proofs.YtmlclccfmlcabaaDoor.fb Go.Proofs.YtmlclccfmlcabaaDoor.ka Go.Proofs.YtmlclccfmlcabaaDoor.kb Go.Proofs.YtmlclccfmlcabaaDoor.kg Go.Proofs.YtmlclccfmlcabaaDoor.kj Go.Proofs.YtmlclccfmlcabaaDoor.oa Go.Proofs.YtmlclccfmlcabaaDoor.os Go.Proofs.YtmlclccfmlcabaaDoor.od Go.Proofs.YtmlclccfmlcabaaDoor.oh Go.Proofs.YtmlclccfmlcabaaDoor.qa Go.Proofs.YtmlclccfmlcabaaDoor.qc Go.Proofs.YtmlclccfmlcabaaDoor.qd Go.Proofs.YtmlclccfmlcabaaDoor.ja Go.Proofs.YtmlclccfmlcabaaDoor.jg Go.Proofs.YtmlclccfmlcabaaDoor.cm Go.Proofs.YtmlclccfmlcabaaDoor.cw Go.Proofs.YtmlclccfmlcabaaDoor.cp Go.Proofs.YtmlclccfmlcabaaDoor.cg Go.Proofs.YtmlclccfmlcabaaDoor.ch Go.Proofs.YtmlclccfmlcabaaDoor.cu Go.Proofs.YtmlclccfmlcabaaDoor.sr Go.Proofs.YtmlclccfmlcabaaDoor.jb Go.Proofs.YtmlclccfmlcabaaDoor.jc Go.Proofs.YtmlclccfmlcabaaDoor.jd Go.Proofs.YtmlclccfmlcabaaDoor.je Go.Proofs.YtmlclccfmlcabaaDoor.jf Go.Proofs.YtmlclccfmlcabaaDoor.jh Go.Proofs.YtmlclccfmlcabaaDoor.ob
set_option linter.unusedSimpArgs false

def note (x : Int) : Ent := ⟨x, 8, 0, 0, 0, 0, chg0, ⟨#[]⟩⟩
def notes (F : Int) : Nat → List Ent
  | 0 => []
  | j + 1 => notes F j ++ [note (F + j)]
theorem notes_length (F : Int) : ∀ j, (notes F j).length = j
  | 0 => rfl
  | j + 1 => by
    show (notes F j ++ [note (F + j)]).length = j + 1
    rw [List.length_append, notes_length F j]; rfl
theorem note_valid {x : Int} (h1 : 1 ≤ x) (h2 : x ≤ 1099511627776) : validE (note x) = true := by
  have hk : kindB (note x).kind = true := rfl
  have ha : allowB (note x) = true := by
    show (linksNothingB (note x) && (noChangeB chg0 && someBlobB ⟨#[]⟩)) = true
    have h1 : noChangeB chg0 = true := by decide +kernel
    have h2 : someBlobB ⟨#[]⟩ = true := by decide +kernel
    rw [h1, h2]
    have h3 : linksNothingB (note x) = true := rfl
    rw [h3]; rfl
  have hn : numsB (note x) = true := by
    show (decide (1 ≤ x) && (decide (x ≤ 1099511627776) && (earlyB 0 x && (earlyB 0 x && earlyB 0 x)))) = true
    unfold earlyB
    simp
    omega
  unfold validE
  rw [hk, hn, ha]; rfl
theorem chg0_fits : FitsH chg0 := by
  unfold FitsH
  decide
theorem note_fits (x : Int) : FitsE (note x) := ⟨chg0_fits, by show (⟨#[]⟩ : ByteArray).size ≤ _; decide⟩
theorem notes_row (F : Int) (h1 : 1 ≤ F) : ∀ j : Nat, F + j ≤ 1099511627777 → Row (notes F j) F
  | 0, _ => trivial
  | j + 1, h => (row_append (notes F j) [note (F + j)] F).2 ⟨notes_row F h1 j (by omega), by
    rw [notes_length]
    exact ⟨note_valid (by omega) (by omega), rfl, trivial⟩⟩
theorem notes_fits (F : Int) : ∀ j, ∀ e ∈ notes F j, FitsE e
  | 0, e, h => by cases h
  | j + 1, e, h => by
    rcases List.mem_append.1 h with h | h
    · exact notes_fits F j e h
    · obtain rfl := List.mem_singleton.1 h
      exact note_fits _
def LL (F : Int) (n : Nat) : Lg := ⟨F, notes F n, F - 1⟩
theorem logV_stored {f d : Int} {v : Value} {l : Lg} {w W : World} {b : Nat} (h : LogV (lvals f v d) l w) (hS : StoredAt b w W) (hne : ∀ g, v.ownBlock = some g → g ≠ b) : LogV (lvals f v d) l W := by
  obtain ⟨u, h1, h2⟩ := h
  have e : v = u := by
    have := congrArg (fun x : List Value => x[1]?) h1
    simpa [lvals] using this
  subst e
  refine ⟨_, h1, h2.1, h2.2.1, ?_⟩
  rcases h2.2.2 with h3 | ⟨g, off, cap, rfl, h3, h4, h5⟩
  · exact .inl h3
  · refine .inr ⟨g, off, cap, rfl, h3, ?_, fun i u hu => ?_⟩
    · obtain ⟨f', us, rfl⟩ := hS
      rw [setCells_size]; exact h4
    · have hh : W.heap[g]? = w.heap[g]? := StoredAt.heap hS g (fun e => hne g rfl e.symm)
      have := h5 i u hu
      unfold World.cell? at this ⊢
      rw [hh]; exact this
theorem ll_is {F : Int} {n : Nat} (h1 : 1 ≤ F) (h2 : F + n ≤ 1099511627777) (hn : n ≤ 4096) (h0 : 0 < n) : IsLog (LL F n) :=
  ⟨h1, by show F ≤ _; omega, by show (notes F n).length ≤ 4096; rw [notes_length]; exact hn, notes_row F h1 n h2, by show F - 1 ≤ F - 1; omega, by show F - 1 ≤ F + ((notes F n).length : Int) - 1; omega⟩
theorem ll_last (F : Int) (n : Nat) : lastN (LL F n) = F + n - 1 := by
  show F + ((notes F n).length : Int) - 1 = _
  rw [notes_length]
def L2 (F : Int) (n : Nat) : Lg := ⟨F, notes F n, F⟩
theorem l2_is {F : Int} {n : Nat} (h1 : 1 ≤ F) (h2 : F + n ≤ 1099511627777) (hn : n ≤ 4096) (h0 : 0 < n) : IsLog (L2 F n) :=
  ⟨h1, by show F ≤ _; omega, by show (notes F n).length ≤ 4096; rw [notes_length]; exact hn, notes_row F h1 n h2, by show F - 1 ≤ F; omega, by show F ≤ F + ((notes F n).length : Int) - 1; rw [notes_length]; omega⟩
def L3 (F : Int) (n : Nat) : Lg := ⟨F + 1, (notes F n).drop 1, F⟩
theorem row_drop {l : List Ent} {n : Int} (h : Row l n) : Row (l.drop 1) (n + 1) := by
  cases l with
  | nil => trivial
  | cons e r => exact h.2.2
theorem l3_len (F : Int) (n : Nat) : (L3 F n).ents.length = n - 1 := by
  show ((notes F n).drop 1).length = _
  rw [List.length_drop, notes_length]
theorem l3_is {F : Int} {n : Nat} (h1 : 1 ≤ F) (h2 : F + n ≤ 1099511627777) (hn : n ≤ 4096) (h0 : 1 < n) : IsLog (L3 F n) :=
  ⟨by show 1 ≤ F + 1; omega, by show F + 1 ≤ _; omega, by rw [l3_len]; omega, row_drop (notes_row F h1 n h2), by show F + 1 - 1 ≤ F; omega, by rw [l3_len]; show F ≤ F + 1 + _ - 1; omega⟩
theorem l3_last {F : Int} {n : Nat} (h : 0 < n) : lastN (L3 F n) = F + n - 1 := by
  show F + 1 + ((L3 F n).ents.length : Int) - 1 = _
  rw [l3_len]; omega
theorem ll_fits (F : Int) (n : Nat) : FitsL (LL F n) := notes_fits F n
theorem l2_fits (F : Int) (n : Nat) : FitsL (L2 F n) := notes_fits F n
theorem l3_fits (F : Int) (n : Nat) : FitsL (L3 F n) := fun e he => notes_fits F n e (List.mem_of_mem_drop he)
theorem ll_force {F : Int} {n : Nat} (h1 : 1 ≤ F) (h2 : F + n ≤ 1099511627777) (hn : n ≤ 4096) (h0 : 0 < n) : forceE (LL F n) F = 0 ∧ forceL (LL F n) F = L2 F n := by
  have hv := valid_iff.2 (ll_is h1 h2 hn h0)
  have h : forceE (LL F n) F = 0 := by unfold forceE; rw [if_neg (by simp [hv]), if_neg (by rw [ll_last]; omega)]
  refine ⟨h, ?_⟩
  rw [force_yes h]
  show (⟨F, notes F n, max (F - 1) F⟩ : Lg) = ⟨F, notes F n, F⟩
  rw [show max (F - 1) F = F by omega]
theorem l2_cut {F : Int} {n : Nat} (h1 : 1 ≤ F) (h2 : F + n ≤ 1099511627777) (hn : n ≤ 4096) (h0 : 1 < n) : cutE (L2 F n) (F + 1) = 0 ∧ cutL (L2 F n) (F + 1) = L3 F n := by
  have hv := valid_iff.2 (l2_is h1 h2 hn (by omega))
  have hl : lastN (L2 F n) = F + n - 1 := ll_last F n
  have h : cutE (L2 F n) (F + 1) = 0 := by
    unfold cutE
    rw [if_neg (by simp [hv]), if_neg (by rw [hl]; show ¬ (F + 1 < F ∨ _); omega), if_neg (by show ¬ (F + 1 < F + 1); omega)]
  refine ⟨h, ?_⟩
  rw [cut_yes h]
  show (⟨F + 1, (notes F n).drop (F + 1 - F).toNat, F⟩ : Lg) = _
  rw [show (F + 1 - F).toNat = 1 by omega]; rfl
/-- What Append says of such a log. -/
theorem app_limit {l : Lg} (h : IsLog l) (h2 : l.ents.length = 4096 ∨ lastN l = 1099511627776) : appendE l (note 0) = 21 ∧ appendL l (note 0) = noLog ∧ appendN l (note 0) = 0 := by
  have e := appendE_21 (e := note 0) (valid_iff.2 h) h2
  exact ⟨e, append_no e (by decide)⟩
theorem app_goes {l : Lg} (h : IsLog l) (h1 : l.ents.length ≠ 4096) (h2 : lastN l < 1099511627776) : appendE l (note 0) = 0 ∧ appendN l (note 0) = lastN l + 1 := by
  have hl : l.first ≤ lastN l + 1 := by unfold lastN; omega
  have hf := h.first1
  have e := appendE_0 (e := note 0) (valid_iff.2 h) (by rintro (a | a); exact h1 a; omega) (note_valid (by omega) (by omega))
  exact ⟨e, (append_yes e).2⟩
theorem append_says (vs : List Value) (l L' : Lg) (n k : Int) (h1 : appendL l (note 0) = L') (h2 : appendN l (note 0) = n) (h3 : appendE l (note 0) = k) (w : World) (h : LogV vs l w) (hf : FitsL l) :
    Calls Tryd.prog 5 #[.agg vs.toArray, .agg (note 0).vals.toArray] w (GivesL w L' [.int .i64 n, .int .i64 k]) := by
  have := append_any vs l (note 0) w h hf (note_fits 0)
  rwa [h1, h2, h3] at this
theorem force_says (vs : List Value) (l L' : Lg) (n k : Int) (h1 : forceL l n = L') (h3 : forceE l n = k) (w : World) (h : LogV vs l w) (hf : FitsL l) :
    Calls Tryd.prog 6 #[.agg vs.toArray, .int .i64 n] w (GivesL w L' [.int .i64 k]) := by
  have := force_any vs l n w h hf
  rwa [h1, h3] at this
theorem cut_says (vs : List Value) (l L' : Lg) (n k : Int) (h1 : cutL l n = L') (h3 : cutE l n = k) (w : World) (h : LogV vs l w) (hf : FitsL l) :
    Calls Tryd.prog 7 #[.agg vs.toArray, .int .i64 n] w (GivesL w L' [.int .i64 k]) := by
  have := cut_any vs l n w h hf
  rwa [h1, h3] at this
theorem _root_.Go.Proofs.YtmlclccfmlcabaaDoor.jg.Sw.grown {L : List (Nat × List Value)} {w W W' : World} {row : Option Nat} (h : Sw L w W) (hg : W.grownBy W' row) (hne : ∀ x ∈ L, row ≠ some x.1) (hB : ∀ k, row = some k → w.heap.size ≤ k) : Sw L w W' := ⟨h.1.grown hg hne hB, h.2⟩

/-- The log so far: a variable, and a row that the call owns. -/
def LoopL (b : Nat) (F : Int) (w : World) (j : Nat) (wr : World) : Prop := ∃ v, Hid (Sw [(b, lvals F v (F - 1))] w wr) ∧ Hid (wr.ownsRow (b + 1) 31 13 v (notes F j).length (entL (notes F j)))
theorem app_goes_n {l : Lg} {n : Nat} (h : IsLog l) (h1 : l.ents.length ≠ 4096) (h2 : lastN l = n) (h3 : (n : Int) < 1099511627776) : appendE l (note 0) = 0 ∧ appendN l (note 0) = (n : Int) + 1 := by
  obtain ⟨a, b⟩ := app_goes h h1 (by omega)
  exact ⟨a, by rw [b, h2]⟩
set_option maxRecDepth 100000 in
set_option maxHeartbeats 4000000 in
theorem limits_high (less : Int) (n : Nat) (w : World) (hw0 : TabOk w) (h0 : 0 ≤ less) (h1 : less ≤ 255) (hn : 4096 - less % 3 = (n : Int))  :
    Calls Tryd.prog 3 #[.int .u8 less, .bool true] w fun e w' => e = .returned (.bool true) ∧ Below w.heap.size w w' := by
  have hw := Lib.hid hw0
  clear hw0
  have HS : Hid (Sw [] w w) := Lib.hid (sw_nil w)
  have m0 : 0 ≤ less % 3 := by omega
  have m1 : less % 3 ≤ 2 := by omega
  have n0 : 4094 ≤ n := by omega
  have n1 : n ≤ 4096 := by omega
  obtain ⟨F, hF⟩ : ∃ F : Int, 1099511627776 - (n : Int) + 1 = F := ⟨_, rfl⟩
  have F0 : 1 ≤ F := by omega
  have F1 : F + n ≤ 1099511627777 := by omega
  have F2 : F ≤ 1099511627776 := by omega

  go_enter Tryd.func3, Tryd.ntmps3
  go_wp2_with (first
    | (refine wp_load1S _ HS rfl rfl (by first | exact at0 | exact at1 | exact at2 | exact at3 | exact at4 | exact at5) (by rfl) (by decide +kernel) rfl ?_)
    | (refine wp_loadS _ HS rfl rfl (by first | exact at0 | exact at1 | exact at2 | exact at3 | exact at4 | exact at5) (sub_all _) ⟨by decide +kernel, by kernel_rfl⟩ rfl ?_)
    | (go_at_call 4; (with_reducible refine (awake_any _ hw.out).mono ?_); rintro ec wc ⟨rfl, hbc⟩; replace HS := Lib.hid (Sw.keep HS.out hbc); clear hbc)
    | (have lAA := HS.out.size; refine wp_newS log0 zero_log HS rfl rfl ?_; clear HS; intro WA HS ltA hbA; clear hbA)
    | (refine wp_storeS (lvals 1 (.slice none 0 0) 0) HS rfl rfl rfl (by first | exact at0 | exact at1 | exact at2 | exact at3 | exact at4 | exact at5) (by rfl) rfl ⟨by kernel_rfl, by kernel_rfl⟩ rfl ?_; clear HS; intro Ws HS hSs; clear hSs; simp only [List.set_cons_zero, List.set_cons_succ] at HS)
    | (refine wp_store1S (us := (lvals F (.slice none 0 0) 0)) _ HS rfl rfl rfl (by first | exact at0 | exact at1 | exact at2 | exact at3 | exact at4 | exact at5) (of_decide_eq_true (by rfl)) (by rfl) rfl rfl ⟨by kernel_rfl, by kernel_rfl⟩ rfl ?_; clear HS; intro Ws HS hSs; simp only [List.set_cons_zero, List.set_cons_succ] at HS; clear hSs)
    | (refine wp_store1S (us := (lvals F (.slice none 0 0) (F - 1))) _ HS rfl rfl rfl (by first | exact at0 | exact at1 | exact at2 | exact at3 | exact at4 | exact at5) (of_decide_eq_true (by rfl)) (by rfl) rfl rfl ⟨by kernel_rfl, by kernel_rfl⟩ rfl ?_; clear HS; intro Ws HS hSs; simp only [List.set_cons_zero, List.set_cons_succ] at HS; clear hSs))
  have hFw := hF
  clear hF
  have OW : Hid (Ws.ownsRow (wc.heap.size + 1) 31 13 (.slice none 0 0) (notes F 0).length (entL (notes F 0))) := Lib.hid (World.ownsRow_nil _ _ _ _)
  go_loopw [7] (fun s7 wr => ∃ j : Nat, j ≤ n ∧ s7 = .int .i64 j ∧ LoopL wc.heap.size F w j wr) (fun s7 _ => n - (intOf s7).toNat)
  case atStart => exact ⟨0, by omega, rfl, _, HS, OW⟩
  case round =>
    clear HS OW
    obtain ⟨j, hj, rfl, v, HS, OW⟩ := hrel
    by_cases hj2 : j < n
    rotate_left
    · obtain rfl : n = j := by omega
      clear hj hj2
      obtain ⟨sv, kv, cv, rfl, HK⟩ := own_form OW.out
      have HLv : Hid (LogV (lvals F (.slice sv kv cv) (F - 1)) (LL F n) wr) := Lib.hid ⟨_, rfl, Sl.of_own OW.out⟩
      have LR := Lib.hid (HS.out.row at0)
      have HW := Lib.hid HS.out.below
      have HS2 : Hid (Sw [] wr wr) := Lib.hid (sw_nil wr)
      clear HS
      have HS := HS2
      clear HS2
      have hN0 : noLog.ents.length = 0 := rfl
      have HI := Lib.hid (ll_is F0 F1 n1 (by omega))
      have HA := Lib.hid (app_limit HI.out (.inr (by rw [ll_last]; omega)))
      have HFo := Lib.hid (ll_force F0 F1 n1 (by omega))
      have HCu := Lib.hid (l2_cut F0 F1 n1 (by omega))
      have HI3 := Lib.hid (l3_is F0 F1 n1 (by omega))
      have HA3 := Lib.hid (app_limit HI3.out (.inr (by rw [l3_last (by omega)]; omega)))
      have l3l := l3_len F n
      obtain ⟨M3, hM3⟩ : ∃ M3, L3 F n = M3 := ⟨_, rfl⟩
      obtain ⟨M2, hM2⟩ : ∃ M2, L2 F n = M2 := ⟨_, rfl⟩
      rw [hM3] at HI3 HA3 HCu l3l
      rw [hM2] at HFo HCu
      have F3 : FitsL M3 := hM3 ▸ l3_fits F n
      have HF3 := Lib.hid F3
      have F2' : FitsL M2 := hM2 ▸ l2_fits F n
      have HF2 := Lib.hid F2'
      have M3l : (M3.ents.length : Int) = (n : Int) - 1 := by omega
      clear hM3 hM2 F3 F2' l3l OW hFw HI HI3
      go_wp2_with (first
    | (refine wp_loadO (lvals F (.slice sv kv cv) (F - 1)) (f := 0) (fun i u hu => by rw [Nat.zero_add]; exact (RowAt.keep LR.out HS.out.below).cells i u hu) rfl rfl ⟨by decide +kernel, by kernel_rfl⟩ rfl ?_)
    | (refine wp_load1O (.int .i64 F) (f := 0) ((RowAt.keep LR.out HS.out.below).cells 0 _ rfl) rfl rfl (by decide +kernel) rfl ?_)
    | (refine wp_load1S _ HS rfl rfl (by first | exact at0 | exact at1 | exact at2 | exact at3 | exact at4 | exact at5) (by rfl) (by decide +kernel) rfl ?_)
    | (refine wp_loadS _ HS rfl rfl (by first | exact at0 | exact at1 | exact at2 | exact at3 | exact at4 | exact at5) (sub_all _) ⟨by decide +kernel, by kernel_rfl⟩ rfl ?_)
    | (go_at_call 5; have hq := HA.out; clear hq; (refine (append_says _ (LL F n) noLog 0 21 HA.out.2.1 HA.out.2.2 HA.out.1 _ (LogV.keep HLv.out HS.out.below) (ll_fits F n)).mono ?_); rintro ec wc2 ⟨vs, rfl, hLV, hbc, -⟩; obtain ⟨sX, cX, rfl, hSl⟩ := hLV.form; clear hLV hSl; replace HS := Lib.hid (Sw.keep HS.out hbc); clear hbc HA)
    | (go_at_call 5; have hq := HA3.out; clear hq; (refine (append_says _ M3 noLog 0 21 HA3.out.2.1 HA3.out.2.2 HA3.out.1 _ LZ2.out HF3.out).mono ?_); rintro ec wc2 ⟨vs, rfl, hLV, hbc, -⟩; obtain ⟨sX, cX, rfl, hSl⟩ := hLV.form; clear hLV hSl; replace HS := Lib.hid (Sw.keep HS.out hbc); clear hbc HA3)
    | (go_at_call 6; (refine (force_says _ (LL F n) M2 F 0 HFo.out.2 HFo.out.1 _ (LogV.keep HLv.out HS.out.below) (ll_fits F n)).mono ?_); rintro ec WF ⟨vs, rfl, hLV, hbc, -⟩; obtain ⟨sY, cY, rfl, hSl⟩ := hLV.form; have LY := Lib.hid hLV; clear hLV hSl; replace HS := Lib.hid (Sw.keep HS.out hbc); clear hbc)
    | (go_at_call 7; have hyl := (HS.out.row at0).lt; (refine (cut_says _ M2 M3 (F + 1) 0 HCu.out.2 HCu.out.1 _ LY2.out HF2.out).mono ?_); rintro ec WZ ⟨vs, rfl, hLV, hbc, hfr⟩; obtain ⟨sZ, cZ, rfl, hSl⟩ := hLV.form; have LZ := Lib.hid hLV; have hne : ∀ g, Value.ownBlock (.slice sZ M3.ents.length cZ) = some g → g ≠ WF.heap.size := (fun g hg => by have := hfr g hg; omega); have HNE := Lib.hid hne; clear hLV hSl hfr hne hyl; replace HS := Lib.hid (Sw.keep HS.out hbc); clear hbc)
    | (have hq := LY.out; clear hq; refine wp_newS log0 zero_log HS rfl rfl ?_; clear HS; intro WN HS ltN hbN; have HbY := Lib.hid hbN; have LYb := LY; clear hbN LY)
    | (refine wp_newS log0 zero_log HS rfl rfl ?_; clear HS; intro WN HS ltN hbN; clear hbN)
    | (refine wp_storeS (lvals noLog.first (.slice sX noLog.ents.length cX) noLog.dur) HS rfl rfl rfl (by first | exact at0 | exact at1 | exact at2 | exact at3 | exact at4 | exact at5) (by rfl) (lvals_one _ _ (one_slice _ _ _)) ⟨by kernel_rfl, by kernel_rfl⟩ rfl ?_; clear HS; intro Ws HS hSs; simp only [List.set_cons_zero, List.set_cons_succ] at HS; skip; clear hSs)
    | (refine wp_storeS (lvals noLog.first (.slice sX noLog.ents.length cX) noLog.dur) HS rfl rfl rfl (by first | exact at0 | exact at1 | exact at2 | exact at3 | exact at4 | exact at5) (by rfl) (lvals_one _ _ (one_slice _ _ _)) ⟨by kernel_rfl, by kernel_rfl⟩ rfl ?_; clear HS; intro Ws HS hSs; simp only [List.set_cons_zero, List.set_cons_succ] at HS; skip; clear hSs)
    | (refine wp_storeS (lvals M2.first (.slice sY M2.ents.length cY) M2.dur) HS rfl rfl rfl (by first | exact at0 | exact at1 | exact at2 | exact at3 | exact at4 | exact at5) (by rfl) (lvals_one _ _ (one_slice _ _ _)) ⟨by kernel_rfl, by kernel_rfl⟩ rfl ?_; clear HS; intro Ws HS hSs; simp only [List.set_cons_zero, List.set_cons_succ] at HS; have LY2 := Lib.hid (LogV.keep LYb.out (StoredAt.below hSs HbY.out (Nat.le_refl _))); clear LYb HbY; clear hSs)
    | (refine wp_storeS (lvals M3.first (.slice sZ M3.ents.length cZ) M3.dur) HS rfl rfl rfl (by first | exact at0 | exact at1 | exact at2 | exact at3 | exact at4 | exact at5) (by rfl) (lvals_one _ _ (one_slice _ _ _)) ⟨by kernel_rfl, by kernel_rfl⟩ rfl ?_; clear HS; intro Ws HS hSs; simp only [List.set_cons_zero, List.set_cons_succ] at HS; have LZ2 := Lib.hid (logV_stored LZ.out hSs HNE.out); clear LZ HNE; clear hSs))
      go_ret
      exact ⟨rfl, HW.out.trans (HS.out.below.mono HW.out.size)⟩
    obtain ⟨sv, kv, cv, rfl, HK⟩ := own_form OW.out
    have q0 : (0 : Int) ≤ (j : Int) := by omega
    have q1 : (j : Int) < (n : Int) := by omega
    go_wp2_with (first
    | (refine wp_load1S _ HS rfl rfl (by first | exact at0 | exact at1 | exact at2 | exact at3 | exact at4 | exact at5) (by rfl) (by decide +kernel) rfl ?_)
    | (refine wp_loadS _ HS rfl rfl (by first | exact at0 | exact at1 | exact at2 | exact at3 | exact at4 | exact at5) (sub_all _) ⟨by decide +kernel, by kernel_rfl⟩ rfl ?_)
    | (refine wp_buildE1W (note (F + j)) rfl rfl rfl ?_; intro WB hRB hbB ltB; have OW1 := Lib.hid (own_keep OW.out hbB); replace HS := Lib.hid (Sw.first HS.out hbB hRB); clear hRB hbB OW)
    | (refine wp_appEnts (m := [note (F + j)]) rfl rfl rfl rfl OW1.out (sl_entsAt (HS.out.row at0)) (by rw [notes_length]; show j + 1 ≤ 100000; omega) (by have := (HS.out.row at1).lt; omega) ?_; intro v2 w2 hG; have hg1 := hG.2.1; have hB : ∀ k, Value.ownBlock (.slice sv kv cv) = some k → w.heap.size ≤ k ∧ wc.heap.size < k := (fun k hk => by have h1 := (OW1.out.lt k hk).1; have h2 := HS.out.low at1; omega); replace HS := Lib.hid (Sw.grown (Sw.tail HS.out) hg1 (by intro x hx e; obtain rfl := List.mem_singleton.1 hx; exact Nat.lt_irrefl _ (hB _ e).2) (fun k hk => (hB k hk).1)); have OW2 := Lib.hid hG.1; obtain ⟨sv2, kv2, cv2, rfl, HK2⟩ := own_form hG.1; clear hG hg1 hB)
    | (refine wp_store1S (us := (lvals F (.slice sv2 kv2 cv2) (F - 1))) _ HS rfl rfl rfl (by first | exact at0 | exact at1 | exact at2 | exact at3 | exact at4 | exact at5) (of_decide_eq_true (by rfl)) (by rfl) rfl rfl ⟨by kernel_rfl, by kernel_rfl⟩ rfl ?_; clear HS; intro Ws HS hSs; simp only [List.set_cons_zero, List.set_cons_succ] at HS; have OW3 := Lib.hid (own_storedNe OW2.out hSs (fun g hg => by have := (OW2.out.lt g hg).1; omega)); clear hSs OW2))
    go_roundw
    case measure => simp [intOf]; omega
    case rel => exact ⟨j + 1, by omega, by go_num, _, HS, OW3⟩
set_option maxRecDepth 100000 in
set_option maxHeartbeats 4000000 in
theorem limits_full (less : Int) (n : Nat) (w : World) (hw0 : TabOk w) (h0 : 0 ≤ less) (h1 : less ≤ 255) (hn : 4096 - less % 3 = (n : Int)) (hn2 : n = 4096) :
    Calls Tryd.prog 3 #[.int .u8 less, .bool false] w fun e w' => e = .returned (.bool true) ∧ Below w.heap.size w w' := by
  have hw := Lib.hid hw0
  clear hw0
  have HS : Hid (Sw [] w w) := Lib.hid (sw_nil w)
  have m0 : 0 ≤ less % 3 := by omega
  have m1 : less % 3 ≤ 2 := by omega
  have n0 : 4094 ≤ n := by omega
  have n1 : n ≤ 4096 := by omega
  obtain ⟨F, hF⟩ : ∃ F : Int, 1 = F := ⟨_, rfl⟩
  have F0 : 1 ≤ F := by omega
  have F1 : F + n ≤ 1099511627777 := by omega
  have F2 : F ≤ 1099511627776 := by omega
  have d0 : ((n : Int) == 4096) = true := by simp; omega
  have HF := Lib.hid hF
  clear hF
  go_enter Tryd.func3, Tryd.ntmps3
  go_wp2_with (first
    | (refine wp_load1S _ HS rfl rfl (by first | exact at0 | exact at1 | exact at2 | exact at3 | exact at4 | exact at5) (by rfl) (by decide +kernel) rfl ?_)
    | (refine wp_loadS _ HS rfl rfl (by first | exact at0 | exact at1 | exact at2 | exact at3 | exact at4 | exact at5) (sub_all _) ⟨by decide +kernel, by kernel_rfl⟩ rfl ?_)
    | (go_at_call 4; (with_reducible refine (awake_any _ hw.out).mono ?_); rintro ec wc ⟨rfl, hbc⟩; replace HS := Lib.hid (Sw.keep HS.out hbc); clear hbc)
    | (have lAA := HS.out.size; refine wp_newS log0 zero_log HS rfl rfl ?_; clear HS; intro WA HS ltA hbA; clear hbA)
    | (refine wp_storeS (lvals 1 (.slice none 0 0) 0) HS rfl rfl rfl (by first | exact at0 | exact at1 | exact at2 | exact at3 | exact at4 | exact at5) (by rfl) rfl ⟨by kernel_rfl, by kernel_rfl⟩ rfl ?_; clear HS; intro Ws HS hSs; clear hSs; simp only [List.set_cons_zero, List.set_cons_succ] at HS)
    | (refine wp_store1S _ HS rfl rfl rfl (by first | exact at0 | exact at1 | exact at2 | exact at3 | exact at4 | exact at5) (of_decide_eq_true (by rfl)) (by rfl) rfl rfl ⟨by kernel_rfl, by kernel_rfl⟩ rfl ?_; clear HS; intro Ws HS hSs; clear hSs; simp only [List.set_cons_zero, List.set_cons_succ] at HS))
  have hFw : Hid True := Lib.hid trivial
  have HS2 : Hid (Sw [(wc.heap.size, lvals F (.slice none 0 0) (F - 1))] w Ws) := Lib.hid (by rw [← HF.out]; exact HS.out)
  clear HS
  have HS := HS2
  clear HS2
  have OW : Hid (Ws.ownsRow (wc.heap.size + 1) 31 13 (.slice none 0 0) (notes F 0).length (entL (notes F 0))) := Lib.hid (World.ownsRow_nil _ _ _ _)
  go_loopw [7] (fun s7 wr => ∃ j : Nat, j ≤ n ∧ s7 = .int .i64 j ∧ LoopL wc.heap.size F w j wr) (fun s7 _ => n - (intOf s7).toNat)
  case atStart => exact ⟨0, by omega, rfl, _, HS, OW⟩
  case round =>
    clear HS OW
    obtain ⟨j, hj, rfl, v, HS, OW⟩ := hrel
    by_cases hj2 : j < n
    rotate_left
    · obtain rfl : n = j := by omega
      clear hj hj2
      obtain ⟨sv, kv, cv, rfl, HK⟩ := own_form OW.out
      have HLv : Hid (LogV (lvals F (.slice sv kv cv) (F - 1)) (LL F n) wr) := Lib.hid ⟨_, rfl, Sl.of_own OW.out⟩
      have LR := Lib.hid (HS.out.row at0)
      have HW := Lib.hid HS.out.below
      have HS2 : Hid (Sw [] wr wr) := Lib.hid (sw_nil wr)
      clear HS
      have HS := HS2
      clear HS2
      have hN0 : noLog.ents.length = 0 := rfl
      have HI := Lib.hid (ll_is F0 F1 n1 (by omega))
      have HA := Lib.hid (app_limit HI.out (.inl (by show (notes F n).length = 4096; rw [notes_length]; exact hn2)))
      have HFo := Lib.hid (ll_force F0 F1 n1 (by omega))
      have HCu := Lib.hid (l2_cut F0 F1 n1 (by omega))
      have HI3 := Lib.hid (l3_is F0 F1 n1 (by omega))
      have HA3 := Lib.hid (app_goes_n (n := n) HI3.out (by rw [l3_len]; omega) (by rw [l3_last (by omega)]; have := HF.out; omega) (by omega))
      have l3l := l3_len F n
      obtain ⟨M3, hM3⟩ : ∃ M3, L3 F n = M3 := ⟨_, rfl⟩
      obtain ⟨M2, hM2⟩ : ∃ M2, L2 F n = M2 := ⟨_, rfl⟩
      rw [hM3] at HI3 HA3 HCu l3l
      rw [hM2] at HFo HCu
      have F3 : FitsL M3 := hM3 ▸ l3_fits F n
      have HF3 := Lib.hid F3
      have F2' : FitsL M2 := hM2 ▸ l2_fits F n
      have HF2 := Lib.hid F2'
      have M3l : (M3.ents.length : Int) = (n : Int) - 1 := by omega
      clear hM3 hM2 F3 F2' l3l OW hFw HI HI3
      go_wp2_with (first
    | (refine wp_loadO (lvals F (.slice sv kv cv) (F - 1)) (f := 0) (fun i u hu => by rw [Nat.zero_add]; exact (RowAt.keep LR.out HS.out.below).cells i u hu) rfl rfl ⟨by decide +kernel, by kernel_rfl⟩ rfl ?_)
    | (refine wp_load1O (.int .i64 F) (f := 0) ((RowAt.keep LR.out HS.out.below).cells 0 _ rfl) rfl rfl (by decide +kernel) rfl ?_)
    | (refine wp_load1S _ HS rfl rfl (by first | exact at0 | exact at1 | exact at2 | exact at3 | exact at4 | exact at5) (by rfl) (by decide +kernel) rfl ?_)
    | (refine wp_loadS _ HS rfl rfl (by first | exact at0 | exact at1 | exact at2 | exact at3 | exact at4 | exact at5) (sub_all _) ⟨by decide +kernel, by kernel_rfl⟩ rfl ?_)
    | (go_at_call 5; have hq := HA.out; clear hq; (refine (append_says _ (LL F n) noLog 0 21 HA.out.2.1 HA.out.2.2 HA.out.1 _ (LogV.keep HLv.out HS.out.below) (ll_fits F n)).mono ?_); rintro ec wc2 ⟨vs, rfl, hLV, hbc, -⟩; obtain ⟨sX, cX, rfl, hSl⟩ := hLV.form; clear hLV hSl; replace HS := Lib.hid (Sw.keep HS.out hbc); clear hbc HA)
    | (go_at_call 5; have hq := HA3.out; clear hq; (refine (append_says _ M3 (appendL M3 (note 0)) ((n : Int) + 1) 0 rfl HA3.out.2 HA3.out.1 _ LZ2.out HF3.out).mono ?_); rintro ec wc2 ⟨vs, rfl, hLV, hbc, -⟩; obtain ⟨LX3, hLX⟩ : ∃ LX, appendL M3 (note 0) = LX := ⟨_, rfl⟩; rw [hLX] at hLV; obtain ⟨sX, cX, rfl, hSl⟩ := hLV.form; clear hLV hSl; replace HS := Lib.hid (Sw.keep HS.out hbc); clear hbc hLX HA3)
    | (go_at_call 6; (refine (force_says _ (LL F n) M2 F 0 HFo.out.2 HFo.out.1 _ (LogV.keep HLv.out HS.out.below) (ll_fits F n)).mono ?_); rintro ec WF ⟨vs, rfl, hLV, hbc, -⟩; obtain ⟨sY, cY, rfl, hSl⟩ := hLV.form; have LY := Lib.hid hLV; clear hLV hSl; replace HS := Lib.hid (Sw.keep HS.out hbc); clear hbc)
    | (go_at_call 7; have hyl := (HS.out.row at0).lt; (refine (cut_says _ M2 M3 (F + 1) 0 HCu.out.2 HCu.out.1 _ LY2.out HF2.out).mono ?_); rintro ec WZ ⟨vs, rfl, hLV, hbc, hfr⟩; obtain ⟨sZ, cZ, rfl, hSl⟩ := hLV.form; have LZ := Lib.hid hLV; have hne : ∀ g, Value.ownBlock (.slice sZ M3.ents.length cZ) = some g → g ≠ WF.heap.size := (fun g hg => by have := hfr g hg; omega); have HNE := Lib.hid hne; clear hLV hSl hfr hne hyl; replace HS := Lib.hid (Sw.keep HS.out hbc); clear hbc)
    | (have hq := LY.out; clear hq; refine wp_newS log0 zero_log HS rfl rfl ?_; clear HS; intro WN HS ltN hbN; have HbY := Lib.hid hbN; have LYb := LY; clear hbN LY)
    | (refine wp_newS log0 zero_log HS rfl rfl ?_; clear HS; intro WN HS ltN hbN; clear hbN)
    | (refine wp_storeS (lvals noLog.first (.slice sX noLog.ents.length cX) noLog.dur) HS rfl rfl rfl (by first | exact at0 | exact at1 | exact at2 | exact at3 | exact at4 | exact at5) (by rfl) (lvals_one _ _ (one_slice _ _ _)) ⟨by kernel_rfl, by kernel_rfl⟩ rfl ?_; clear HS; intro Ws HS hSs; simp only [List.set_cons_zero, List.set_cons_succ] at HS; skip; clear hSs)
    | (refine wp_storeS (lvals LX3.first (.slice sX LX3.ents.length cX) LX3.dur) HS rfl rfl rfl (by first | exact at0 | exact at1 | exact at2 | exact at3 | exact at4 | exact at5) (by rfl) (lvals_one _ _ (one_slice _ _ _)) ⟨by kernel_rfl, by kernel_rfl⟩ rfl ?_; clear HS; intro Ws HS hSs; simp only [List.set_cons_zero, List.set_cons_succ] at HS; skip; clear hSs)
    | (refine wp_storeS (lvals M2.first (.slice sY M2.ents.length cY) M2.dur) HS rfl rfl rfl (by first | exact at0 | exact at1 | exact at2 | exact at3 | exact at4 | exact at5) (by rfl) (lvals_one _ _ (one_slice _ _ _)) ⟨by kernel_rfl, by kernel_rfl⟩ rfl ?_; clear HS; intro Ws HS hSs; simp only [List.set_cons_zero, List.set_cons_succ] at HS; have LY2 := Lib.hid (LogV.keep LYb.out (StoredAt.below hSs HbY.out (Nat.le_refl _))); clear LYb HbY; clear hSs)
    | (refine wp_storeS (lvals M3.first (.slice sZ M3.ents.length cZ) M3.dur) HS rfl rfl rfl (by first | exact at0 | exact at1 | exact at2 | exact at3 | exact at4 | exact at5) (by rfl) (lvals_one _ _ (one_slice _ _ _)) ⟨by kernel_rfl, by kernel_rfl⟩ rfl ?_; clear HS; intro Ws HS hSs; simp only [List.set_cons_zero, List.set_cons_succ] at HS; have LZ2 := Lib.hid (logV_stored LZ.out hSs HNE.out); clear LZ HNE; clear hSs))
      go_ret
      exact ⟨rfl, HW.out.trans (HS.out.below.mono HW.out.size)⟩
    obtain ⟨sv, kv, cv, rfl, HK⟩ := own_form OW.out
    have q0 : (0 : Int) ≤ (j : Int) := by omega
    have q1 : (j : Int) < (n : Int) := by omega
    go_wp2_with (first
    | (refine wp_load1S _ HS rfl rfl (by first | exact at0 | exact at1 | exact at2 | exact at3 | exact at4 | exact at5) (by rfl) (by decide +kernel) rfl ?_)
    | (refine wp_loadS _ HS rfl rfl (by first | exact at0 | exact at1 | exact at2 | exact at3 | exact at4 | exact at5) (sub_all _) ⟨by decide +kernel, by kernel_rfl⟩ rfl ?_)
    | (refine wp_buildE1W (note (F + j)) rfl rfl rfl ?_; intro WB hRB hbB ltB; have OW1 := Lib.hid (own_keep OW.out hbB); replace HS := Lib.hid (Sw.first HS.out hbB hRB); clear hRB hbB OW)
    | (refine wp_appEnts (m := [note (F + j)]) rfl rfl rfl rfl OW1.out (sl_entsAt (HS.out.row at0)) (by rw [notes_length]; show j + 1 ≤ 100000; omega) (by have := (HS.out.row at1).lt; omega) ?_; intro v2 w2 hG; have hg1 := hG.2.1; have hB : ∀ k, Value.ownBlock (.slice sv kv cv) = some k → w.heap.size ≤ k ∧ wc.heap.size < k := (fun k hk => by have h1 := (OW1.out.lt k hk).1; have h2 := HS.out.low at1; omega); replace HS := Lib.hid (Sw.grown (Sw.tail HS.out) hg1 (by intro x hx e; obtain rfl := List.mem_singleton.1 hx; exact Nat.lt_irrefl _ (hB _ e).2) (fun k hk => (hB k hk).1)); have OW2 := Lib.hid hG.1; obtain ⟨sv2, kv2, cv2, rfl, HK2⟩ := own_form hG.1; clear hG hg1 hB)
    | (refine wp_store1S (us := (lvals F (.slice sv2 kv2 cv2) (F - 1))) _ HS rfl rfl rfl (by first | exact at0 | exact at1 | exact at2 | exact at3 | exact at4 | exact at5) (of_decide_eq_true (by rfl)) (by rfl) rfl rfl ⟨by kernel_rfl, by kernel_rfl⟩ rfl ?_; clear HS; intro Ws HS hSs; simp only [List.set_cons_zero, List.set_cons_succ] at HS; have OW3 := Lib.hid (own_storedNe OW2.out hSs (fun g hg => by have := (OW2.out.lt g hg).1; omega)); clear hSs OW2))
    go_roundw
    case measure => simp [intOf]; omega
    case rel => exact ⟨j + 1, by omega, by go_num, _, HS, OW3⟩
set_option maxRecDepth 100000 in
set_option maxHeartbeats 4000000 in
theorem limits_less (less : Int) (n : Nat) (w : World) (hw0 : TabOk w) (h0 : 0 ≤ less) (h1 : less ≤ 255) (hn : 4096 - less % 3 = (n : Int)) (hn2 : n < 4096) :
    Calls Tryd.prog 3 #[.int .u8 less, .bool false] w fun e w' => e = .returned (.bool true) ∧ Below w.heap.size w w' := by
  have hw := Lib.hid hw0
  clear hw0
  have HS : Hid (Sw [] w w) := Lib.hid (sw_nil w)
  have m0 : 0 ≤ less % 3 := by omega
  have m1 : less % 3 ≤ 2 := by omega
  have n0 : 4094 ≤ n := by omega
  have n1 : n ≤ 4096 := by omega
  obtain ⟨F, hF⟩ : ∃ F : Int, 1 = F := ⟨_, rfl⟩
  have F0 : 1 ≤ F := by omega
  have F1 : F + n ≤ 1099511627777 := by omega
  have F2 : F ≤ 1099511627776 := by omega
  have d0 : ((n : Int) == 4096) = false := by simp; omega
  have HF := Lib.hid hF
  clear hF
  go_enter Tryd.func3, Tryd.ntmps3
  go_wp2_with (first
    | (refine wp_load1S _ HS rfl rfl (by first | exact at0 | exact at1 | exact at2 | exact at3 | exact at4 | exact at5) (by rfl) (by decide +kernel) rfl ?_)
    | (refine wp_loadS _ HS rfl rfl (by first | exact at0 | exact at1 | exact at2 | exact at3 | exact at4 | exact at5) (sub_all _) ⟨by decide +kernel, by kernel_rfl⟩ rfl ?_)
    | (go_at_call 4; (with_reducible refine (awake_any _ hw.out).mono ?_); rintro ec wc ⟨rfl, hbc⟩; replace HS := Lib.hid (Sw.keep HS.out hbc); clear hbc)
    | (have lAA := HS.out.size; refine wp_newS log0 zero_log HS rfl rfl ?_; clear HS; intro WA HS ltA hbA; clear hbA)
    | (refine wp_storeS (lvals 1 (.slice none 0 0) 0) HS rfl rfl rfl (by first | exact at0 | exact at1 | exact at2 | exact at3 | exact at4 | exact at5) (by rfl) rfl ⟨by kernel_rfl, by kernel_rfl⟩ rfl ?_; clear HS; intro Ws HS hSs; clear hSs; simp only [List.set_cons_zero, List.set_cons_succ] at HS)
    | (refine wp_store1S _ HS rfl rfl rfl (by first | exact at0 | exact at1 | exact at2 | exact at3 | exact at4 | exact at5) (of_decide_eq_true (by rfl)) (by rfl) rfl rfl ⟨by kernel_rfl, by kernel_rfl⟩ rfl ?_; clear HS; intro Ws HS hSs; clear hSs; simp only [List.set_cons_zero, List.set_cons_succ] at HS))
  have hFw : Hid True := Lib.hid trivial
  have HS2 : Hid (Sw [(wc.heap.size, lvals F (.slice none 0 0) (F - 1))] w Ws) := Lib.hid (by rw [← HF.out]; exact HS.out)
  clear HS
  have HS := HS2
  clear HS2
  have OW : Hid (Ws.ownsRow (wc.heap.size + 1) 31 13 (.slice none 0 0) (notes F 0).length (entL (notes F 0))) := Lib.hid (World.ownsRow_nil _ _ _ _)
  go_loopw [7] (fun s7 wr => ∃ j : Nat, j ≤ n ∧ s7 = .int .i64 j ∧ LoopL wc.heap.size F w j wr) (fun s7 _ => n - (intOf s7).toNat)
  case atStart => exact ⟨0, by omega, rfl, _, HS, OW⟩
  case round =>
    clear HS OW
    obtain ⟨j, hj, rfl, v, HS, OW⟩ := hrel
    by_cases hj2 : j < n
    rotate_left
    · obtain rfl : n = j := by omega
      clear hj hj2
      obtain ⟨sv, kv, cv, rfl, HK⟩ := own_form OW.out
      have HLv : Hid (LogV (lvals F (.slice sv kv cv) (F - 1)) (LL F n) wr) := Lib.hid ⟨_, rfl, Sl.of_own OW.out⟩
      have LR := Lib.hid (HS.out.row at0)
      have HW := Lib.hid HS.out.below
      have HS2 : Hid (Sw [] wr wr) := Lib.hid (sw_nil wr)
      clear HS
      have HS := HS2
      clear HS2
      have hN0 : noLog.ents.length = 0 := rfl
      have HI := Lib.hid (ll_is F0 F1 n1 (by omega))
      have HA := Lib.hid (app_goes_n (n := n) HI.out (by show (notes F n).length ≠ 4096; rw [notes_length]; omega) (by rw [ll_last]; have := HF.out; omega) (by omega))
      have HFo := Lib.hid (ll_force F0 F1 n1 (by omega))
      have HCu := Lib.hid (l2_cut F0 F1 n1 (by omega))
      have HI3 := Lib.hid (l3_is F0 F1 n1 (by omega))
      have HA3 := Lib.hid (app_goes_n (n := n) HI3.out (by rw [l3_len]; omega) (by rw [l3_last (by omega)]; have := HF.out; omega) (by omega))
      have l3l := l3_len F n
      obtain ⟨M3, hM3⟩ : ∃ M3, L3 F n = M3 := ⟨_, rfl⟩
      obtain ⟨M2, hM2⟩ : ∃ M2, L2 F n = M2 := ⟨_, rfl⟩
      rw [hM3] at HI3 HA3 HCu l3l
      rw [hM2] at HFo HCu
      have F3 : FitsL M3 := hM3 ▸ l3_fits F n
      have HF3 := Lib.hid F3
      have F2' : FitsL M2 := hM2 ▸ l2_fits F n
      have HF2 := Lib.hid F2'
      have M3l : (M3.ents.length : Int) = (n : Int) - 1 := by omega
      clear hM3 hM2 F3 F2' l3l OW hFw HI HI3
      go_wp2_with (first
    | (refine wp_loadO (lvals F (.slice sv kv cv) (F - 1)) (f := 0) (fun i u hu => by rw [Nat.zero_add]; exact (RowAt.keep LR.out HS.out.below).cells i u hu) rfl rfl ⟨by decide +kernel, by kernel_rfl⟩ rfl ?_)
    | (refine wp_load1O (.int .i64 F) (f := 0) ((RowAt.keep LR.out HS.out.below).cells 0 _ rfl) rfl rfl (by decide +kernel) rfl ?_)
    | (refine wp_load1S _ HS rfl rfl (by first | exact at0 | exact at1 | exact at2 | exact at3 | exact at4 | exact at5) (by rfl) (by decide +kernel) rfl ?_)
    | (refine wp_loadS _ HS rfl rfl (by first | exact at0 | exact at1 | exact at2 | exact at3 | exact at4 | exact at5) (sub_all _) ⟨by decide +kernel, by kernel_rfl⟩ rfl ?_)
    | (go_at_call 5; have hq := HA.out; clear hq; (refine (append_says _ (LL F n) (appendL (LL F n) (note 0)) ((n : Int) + 1) 0 rfl HA.out.2 HA.out.1 _ (LogV.keep HLv.out HS.out.below) (ll_fits F n)).mono ?_); rintro ec wc2 ⟨vs, rfl, hLV, hbc, -⟩; obtain ⟨LX, hLX⟩ : ∃ LX, appendL (LL F n) (note 0) = LX := ⟨_, rfl⟩; rw [hLX] at hLV; obtain ⟨sX, cX, rfl, hSl⟩ := hLV.form; clear hLV hSl; replace HS := Lib.hid (Sw.keep HS.out hbc); clear hbc hLX HA)
    | (go_at_call 5; have hq := HA3.out; clear hq; (refine (append_says _ M3 (appendL M3 (note 0)) ((n : Int) + 1) 0 rfl HA3.out.2 HA3.out.1 _ LZ2.out HF3.out).mono ?_); rintro ec wc2 ⟨vs, rfl, hLV, hbc, -⟩; obtain ⟨LX3, hLX⟩ : ∃ LX, appendL M3 (note 0) = LX := ⟨_, rfl⟩; rw [hLX] at hLV; obtain ⟨sX, cX, rfl, hSl⟩ := hLV.form; clear hLV hSl; replace HS := Lib.hid (Sw.keep HS.out hbc); clear hbc hLX HA3)
    | (go_at_call 6; (refine (force_says _ (LL F n) M2 F 0 HFo.out.2 HFo.out.1 _ (LogV.keep HLv.out HS.out.below) (ll_fits F n)).mono ?_); rintro ec WF ⟨vs, rfl, hLV, hbc, -⟩; obtain ⟨sY, cY, rfl, hSl⟩ := hLV.form; have LY := Lib.hid hLV; clear hLV hSl; replace HS := Lib.hid (Sw.keep HS.out hbc); clear hbc)
    | (go_at_call 7; have hyl := (HS.out.row at0).lt; (refine (cut_says _ M2 M3 (F + 1) 0 HCu.out.2 HCu.out.1 _ LY2.out HF2.out).mono ?_); rintro ec WZ ⟨vs, rfl, hLV, hbc, hfr⟩; obtain ⟨sZ, cZ, rfl, hSl⟩ := hLV.form; have LZ := Lib.hid hLV; have hne : ∀ g, Value.ownBlock (.slice sZ M3.ents.length cZ) = some g → g ≠ WF.heap.size := (fun g hg => by have := hfr g hg; omega); have HNE := Lib.hid hne; clear hLV hSl hfr hne hyl; replace HS := Lib.hid (Sw.keep HS.out hbc); clear hbc)
    | (have hq := LY.out; clear hq; refine wp_newS log0 zero_log HS rfl rfl ?_; clear HS; intro WN HS ltN hbN; have HbY := Lib.hid hbN; have LYb := LY; clear hbN LY)
    | (refine wp_newS log0 zero_log HS rfl rfl ?_; clear HS; intro WN HS ltN hbN; clear hbN)
    | (refine wp_storeS (lvals LX.first (.slice sX LX.ents.length cX) LX.dur) HS rfl rfl rfl (by first | exact at0 | exact at1 | exact at2 | exact at3 | exact at4 | exact at5) (by rfl) (lvals_one _ _ (one_slice _ _ _)) ⟨by kernel_rfl, by kernel_rfl⟩ rfl ?_; clear HS; intro Ws HS hSs; simp only [List.set_cons_zero, List.set_cons_succ] at HS; skip; clear hSs)
    | (refine wp_storeS (lvals LX3.first (.slice sX LX3.ents.length cX) LX3.dur) HS rfl rfl rfl (by first | exact at0 | exact at1 | exact at2 | exact at3 | exact at4 | exact at5) (by rfl) (lvals_one _ _ (one_slice _ _ _)) ⟨by kernel_rfl, by kernel_rfl⟩ rfl ?_; clear HS; intro Ws HS hSs; simp only [List.set_cons_zero, List.set_cons_succ] at HS; skip; clear hSs)
    | (refine wp_storeS (lvals M2.first (.slice sY M2.ents.length cY) M2.dur) HS rfl rfl rfl (by first | exact at0 | exact at1 | exact at2 | exact at3 | exact at4 | exact at5) (by rfl) (lvals_one _ _ (one_slice _ _ _)) ⟨by kernel_rfl, by kernel_rfl⟩ rfl ?_; clear HS; intro Ws HS hSs; simp only [List.set_cons_zero, List.set_cons_succ] at HS; have LY2 := Lib.hid (LogV.keep LYb.out (StoredAt.below hSs HbY.out (Nat.le_refl _))); clear LYb HbY; clear hSs)
    | (refine wp_storeS (lvals M3.first (.slice sZ M3.ents.length cZ) M3.dur) HS rfl rfl rfl (by first | exact at0 | exact at1 | exact at2 | exact at3 | exact at4 | exact at5) (by rfl) (lvals_one _ _ (one_slice _ _ _)) ⟨by kernel_rfl, by kernel_rfl⟩ rfl ?_; clear HS; intro Ws HS hSs; simp only [List.set_cons_zero, List.set_cons_succ] at HS; have LZ2 := Lib.hid (logV_stored LZ.out hSs HNE.out); clear LZ HNE; clear hSs))
      go_ret
      exact ⟨rfl, HW.out.trans (HS.out.below.mono HW.out.size)⟩
    obtain ⟨sv, kv, cv, rfl, HK⟩ := own_form OW.out
    have q0 : (0 : Int) ≤ (j : Int) := by omega
    have q1 : (j : Int) < (n : Int) := by omega
    go_wp2_with (first
    | (refine wp_load1S _ HS rfl rfl (by first | exact at0 | exact at1 | exact at2 | exact at3 | exact at4 | exact at5) (by rfl) (by decide +kernel) rfl ?_)
    | (refine wp_loadS _ HS rfl rfl (by first | exact at0 | exact at1 | exact at2 | exact at3 | exact at4 | exact at5) (sub_all _) ⟨by decide +kernel, by kernel_rfl⟩ rfl ?_)
    | (refine wp_buildE1W (note (F + j)) rfl rfl rfl ?_; intro WB hRB hbB ltB; have OW1 := Lib.hid (own_keep OW.out hbB); replace HS := Lib.hid (Sw.first HS.out hbB hRB); clear hRB hbB OW)
    | (refine wp_appEnts (m := [note (F + j)]) rfl rfl rfl rfl OW1.out (sl_entsAt (HS.out.row at0)) (by rw [notes_length]; show j + 1 ≤ 100000; omega) (by have := (HS.out.row at1).lt; omega) ?_; intro v2 w2 hG; have hg1 := hG.2.1; have hB : ∀ k, Value.ownBlock (.slice sv kv cv) = some k → w.heap.size ≤ k ∧ wc.heap.size < k := (fun k hk => by have h1 := (OW1.out.lt k hk).1; have h2 := HS.out.low at1; omega); replace HS := Lib.hid (Sw.grown (Sw.tail HS.out) hg1 (by intro x hx e; obtain rfl := List.mem_singleton.1 hx; exact Nat.lt_irrefl _ (hB _ e).2) (fun k hk => (hB k hk).1)); have OW2 := Lib.hid hG.1; obtain ⟨sv2, kv2, cv2, rfl, HK2⟩ := own_form hG.1; clear hG hg1 hB)
    | (refine wp_store1S (us := (lvals F (.slice sv2 kv2 cv2) (F - 1))) _ HS rfl rfl rfl (by first | exact at0 | exact at1 | exact at2 | exact at3 | exact at4 | exact at5) (of_decide_eq_true (by rfl)) (by rfl) rfl rfl ⟨by kernel_rfl, by kernel_rfl⟩ rfl ?_; clear HS; intro Ws HS hSs; simp only [List.set_cons_zero, List.set_cons_succ] at HS; have OW3 := Lib.hid (own_storedNe OW2.out hSs (fun g hg => by have := (OW2.out.lt g hg).1; omega)); clear hSs OW2))
    go_roundw
    case measure => simp [intOf]; omega
    case rel => exact ⟨j + 1, by omega, by go_num, _, HS, OW3⟩
theorem limits_walk (less : Int) (high : Bool) (w : World) (hw : TabOk w) (h0 : 0 ≤ less) (h1 : less ≤ 255) :
    Calls Tryd.prog 3 #[.int .u8 less, .bool high] w fun e w' => e = .returned (.bool true) ∧ Below w.heap.size w w' := by
  obtain ⟨n, hn⟩ : ∃ n : Nat, 4096 - less % 3 = (n : Int) := ⟨(4096 - less % 3).toNat, by omega⟩
  cases high
  · by_cases h : n = 4096
    · exact limits_full less n w hw h0 h1 hn h
    · exact limits_less less n w hw h0 h1 hn (by omega)
  · exact limits_high less n w hw h0 h1 hn
end Go.Proofs.YtmlclccfmlcabaaDoor.jl
