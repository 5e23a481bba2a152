/- The table of rules; what a rule allows. -/
import Derived.Test.YtmlclccfmlcabaaDoorOb
import Derived.Shelf.Abstract
namespace Go.Proofs.YtmlclccfmlcabaaDoor.oc
open Go.ChangeShapes Go.WideShapes Go.ChangeAt Go.RowKit Go.Proofs.YtmlclccfmlcabaaDoor.cx Go.Proofs.YtmlclccfmlcabaaDoor.ra Go.Proofs.YtmlclccfmlcabaaDoor.rb Go.Proofs.YtmlclccfmlcabaaDoor.rc Go.Proofs.YtmlclccfmlcabaaDoor.da Go.Proofs.YtmlclccfmlcabaaDoor.ea Go.Proofs.YtmlclccfmlcabaaDoor.eb Go.Proofs.YtmlclccfmlcabaaDoor.ed Go.Proofs.YtmlclccfmlcabaaDoor.fb Go.Proofs.YtmlclccfmlcabaaDoor.ka Go.Proofs.YtmlclccfmlcabaaDoor.kb Go.Proofs.YtmlclccfmlcabaaDoor.kg Go.Proofs.YtmlclccfmlcabaaDoor.kj Go.Proofs.YtmlclccfmlcabaaDoor.oa Go.Proofs.YtmlclccfmlcabaaDoor.ob

abbrev fnV (k : Nat) : Value := .func (.func k) #[] #[]
def ruleL (a b c : Nat) : List Value := [fnV a, fnV b, fnV c]
def ruleVals : List Value := [.nilFunc, .nilFunc, .nilFunc] ++ (ruleL 33 34 35 ++ (ruleL 36 34 35 ++ (ruleL 37 38 35 ++
  (ruleL 37 38 35 ++ (ruleL 37 38 35 ++ (ruleL 39 38 40 ++ (ruleL 41 42 35 ++
  ruleL 39 38 40)))))))
def zeroRules : List Value := List.replicate 27 .nilFunc
theorem zero_rules (W : World) : (zeroValue 54).run Tryd.prog W = .ok (.agg zeroRules.toArray) W := by kernel_rfl
theorem info_rules : (Tryd.prog.info? 54).map (·.size) = some 27 := by kernel_rfl
theorem rules_one : ruleVals.all (·.oneCell') = true := by decide +kernel
theorem rules_any (w : World) : Calls Tryd.prog 24 #[] w fun e w' => e = .returned (.agg ruleVals.toArray) ∧ Below w.heap.size w w' := by
  go_enter Tryd.func24, Tryd.ntmps24
  go_wp2_with (first
    | (refine wp_newW zeroRules _ zero_rules rfl rfl ?_; intro w1 hR hb1 hz1; have HR := Lib.hid hR; have HB := Lib.hid hb1; clear hR hb1 hz1)
    | (have hs := RowAt.setCells ruleVals 0 HR.out (by decide); refine wp_store ruleVals _ HR.out info_rules rules_one (by decide) rfl rfl rfl rfl ?_; have HS := Lib.hid hs; clear hs))
  refine bodyPost_ret (res1 rfl rfl HS.out Tryd.underlying54 rfl info_rules) rfl ⟨rfl, ?_⟩
  exact below_setCells _ (Nat.le_refl _) _ _ _ HB.out
theorem index_rules (W : World) : 
    (Instr.index 54 (.agg ruleVals.toArray) (.int .i64 1)).run Tryd.prog W = .ok (.agg (ruleL 33 34 35).toArray) W ∧
    (Instr.index 54 (.agg ruleVals.toArray) (.int .i64 2)).run Tryd.prog W = .ok (.agg (ruleL 36 34 35).toArray) W ∧
    (Instr.index 54 (.agg ruleVals.toArray) (.int .i64 3)).run Tryd.prog W = .ok (.agg (ruleL 37 38 35).toArray) W ∧
    (Instr.index 54 (.agg ruleVals.toArray) (.int .i64 4)).run Tryd.prog W = .ok (.agg (ruleL 37 38 35).toArray) W ∧
    (Instr.index 54 (.agg ruleVals.toArray) (.int .i64 5)).run Tryd.prog W = .ok (.agg (ruleL 37 38 35).toArray) W ∧
    (Instr.index 54 (.agg ruleVals.toArray) (.int .i64 6)).run Tryd.prog W = .ok (.agg (ruleL 39 38 40).toArray) W ∧
    (Instr.index 54 (.agg ruleVals.toArray) (.int .i64 7)).run Tryd.prog W = .ok (.agg (ruleL 41 42 35).toArray) W ∧
    (Instr.index 54 (.agg ruleVals.toArray) (.int .i64 8)).run Tryd.prog W = .ok (.agg (ruleL 39 38 40).toArray) W := by
  refine ⟨?_, ?_, ?_, ?_, ?_, ?_, ?_, ?_⟩ <;> kernel_rfl
abbrev Says (k : Nat) (args : Array Value) (b : Bool) : Prop := ∀ w : World, Calls Tryd.prog k args w fun e w' => e = .returned (.bool b) ∧ Below w.heap.size w w'
theorem rule_row {b : Nat} {x y z : Nat} {w : World} (h : RowAt b (ruleL x y z) w) : w.cell? ⟨b, 0, none⟩ = some (fnV x) ∧ w.cell? ⟨b, 1, none⟩ = some (fnV y) ∧ w.cell? ⟨b, 2, none⟩ = some (fnV z) := ⟨h.cells 0 _ rfl, h.cells 1 _ rfl, h.cells 2 _ rfl⟩
set_option maxRecDepth 4000 in
set_option maxHeartbeats 2000000 in
theorem allows_any (kl kc kb : Nat) (gl : ∀ args w, (callFunc kl args).run Tryd.prog w = .ok (.enter kl args) w) (gc : ∀ args w, (callFunc kc args).run Tryd.prog w = .ok (.enter kc args) w) (gb : ∀ args w, (callFunc kb args).run Tryd.prog w = .ok (.enter kb args) w)
    (pl pc pb : Bool) (e : Ent) (hl : Says kl #[.agg e.arr] pl) (hc : Says kc #[.agg e.change.arr] pc) (hb : Says kb #[.string e.blob] pb) (w : World) :
    Calls Tryd.prog 25 #[.agg (ruleL kl kc kb).toArray, .agg e.arr] w fun e' w' => e' = .returned (.bool (pl && (pc && pb))) ∧ Below w.heap.size w w' := by
  have HL := Lib.hid hl
  have HCC := Lib.hid hc
  have HBB := Lib.hid hb
  have HU : Hid True := Lib.hid trivial
  clear hl hc hb
  cases pl
  · go_enter Tryd.func25, Tryd.ntmps25
    go_wp2_with (first
      | (clear HU; refine wp_boxW (ruleL kl kc kb) _ rfl rfl rfl ?_; intro w0 hP hb0 hz0; have HP := Lib.hid hP; have HB := Lib.hid hb0; clear hP hb0 hz0)
      | (refine wp_boxEntW e rfl rfl rfl ?_; intro w1 hE hb1 hz1; have HE := Lib.hid hE; have HP1 := Lib.hid (RowAt.keep HP.out hb1); have HB1 := Lib.hid (HB.out.trans (hb1.mono HB.out.size)); obtain ⟨r0, r1, r2⟩ := rule_row HP1.out; clear hE hb1 hz1 HP HB)
      | (refine wp_loadEnt e HE.out rfl rfl rfl ?_)
      | (go_at_fn kl; refine (HL.out _).mono ?_; rintro e2 w2 ⟨rfl, hb2⟩; have HB2 := Lib.hid (HB1.out.trans (hb2.mono HB1.out.size)); clear hb2))
    go_ret
    exact ⟨rfl, HB2.out⟩
  cases pc
  all_goals
    go_enter Tryd.func25, Tryd.ntmps25
    go_wp2_with (first
      | (clear HU; refine wp_boxW (ruleL kl kc kb) _ rfl rfl rfl ?_; intro w0 hP hb0 hz0; have HP := Lib.hid hP; have HB := Lib.hid hb0; clear hP hb0 hz0)
      | (refine wp_boxEntW e rfl rfl rfl ?_; intro w1 hE hb1 hz1; have HE := Lib.hid hE; have HP1 := Lib.hid (RowAt.keep HP.out hb1); have HB1 := Lib.hid (HB.out.trans (hb1.mono HB.out.size)); obtain ⟨r0, r1, r2⟩ := rule_row HP1.out; clear hE hb1 hz1 HP HB)
      | (refine wp_loadEnt e HE.out rfl rfl rfl ?_)
      | (go_at_fn kl; refine (HL.out _).mono ?_; rintro e2 w2 ⟨rfl, hb2⟩; have HB2 := Lib.hid (HB1.out.trans (hb2.mono HB1.out.size)); have HP2 := Lib.hid (RowAt.keep HP1.out hb2); have HE2 := Lib.hid (RowAt.keep HE.out hb2); clear r0 r1 r2 hb2; obtain ⟨r0, r1, r2⟩ := rule_row HP2.out; clear HP1 HE HB1)
      | (refine wp_loadChg6 e HE2.out rfl rfl rfl ?_)
      | (go_at_fn kc; refine (HCC.out _).mono ?_; rintro e3 w3 ⟨rfl, hb3⟩; have HB3 := Lib.hid (HB2.out.trans (hb3.mono HB2.out.size)); have a12 := (RowAt.keep HE2.out hb3).cells 12 _ rfl; clear r0 r1 r2; obtain ⟨r0, r1, r2⟩ := rule_row (RowAt.keep HP2.out hb3); clear hb3)
      | (go_at_fn kb; refine (HBB.out _).mono ?_; rintro e4 w4 ⟨rfl, hb4⟩; have HB4 := Lib.hid (HB3.out.trans (hb4.mono HB3.out.size)); clear hb4))
    go_ret
    first
      | exact ⟨rfl, HB4.out⟩
      | exact ⟨rfl, HB3.out⟩
end Go.Proofs.YtmlclccfmlcabaaDoor.oc
