/- Seal of the reference: the checksum and the second position behind the bytes ahead of them. -/
import Derived.Test.YtkcgcddpgfcgiaaDoorDe
import Derived.Deep.RegionWith
namespace Go.Proofs.YtkcgcddpgfcgiaaDoor.ha
open Go.ChangeShapes Go.WideShapes Go.ChangeAt Go.RowKit Go.Proofs.YtkcgcddpgfcgiaaDoor.cm Go.Proofs.YtkcgcddpgfcgiaaDoor.cw Go.Proofs.YtkcgcddpgfcgiaaDoor.cp Go.Proofs.YtkcgcddpgfcgiaaDoor.cg Go.Proofs.YtkcgcddpgfcgiaaDoor.ch Go.Proofs.YtkcgcddpgfcgiaaDoor.ra Go.Proofs.YtkcgcddpgfcgiaaDoor.rb Go.Proofs.YtkcgcddpgfcgiaaDoor.da Go.Proofs.YtkcgcddpgfcgiaaDoor.db Go.Proofs.YtkcgcddpgfcgiaaDoor.dc Go.Proofs.YtkcgcddpgfcgiaaDoor.dd Go.Proofs.YtkcgcddpgfcgiaaDoor.de

def sealS (s : ByteArray) : ByteArray := putS s (crcN s : Nat) 4 ++ s.extract 0 8
theorem below_undrew' {w w' : World} (h : Below w.drew.heap.size w.drew w') : Below w.heap.size w w' := ⟨h.os, h.tape, h.output, h.size, h.block⟩
set_option maxRecDepth 4000 in
theorem seal_any (s : ByteArray) (w : World) (hs : s.size = 244) :
    Calls Tryd.prog 43 #[.string s] w fun e w' => e = .returned (.string (sealS s)) ∧ Below w.heap.size w w' := by
  have s1 := slice_to s 8 8 rfl (by omega)
  have hc := crcN_lt s
  have a1 : ∀ W : World, (Op.stringOp .add (putS s (crcN s : Nat) 4) (s.extract 0 8)).run Tryd.prog W = .ok (.string (sealS s)) W := fun W =>
    run_string_add_sum W _ _ (by rw [putS_size, ByteArray.size_extract]; omega)
  have HS : Hid (∀ W, Calls Tryd.prog 35 #[.string s] W fun e w' => e = .returned (.int .u32 ((crcN s : Nat) : Int)) ∧ W = w') := Lib.hid fun W => refSum_n s W (by omega)
  have HP : Hid (∀ W, Calls Tryd.prog 33 #[.string s, .int .i64 (crcN s : Nat), .int .i64 4] W fun e w' => e = .returned (.string (putS s (crcN s : Nat) 4)) ∧ Below W.heap.size W w') := Lib.hid fun W => refPut_is s _ _ 4 (by decide) W (by omega) (by decide) (by decide)
  have q4 : IntKind.i64.wrap ((crcN s : Nat) : Int) = ((crcN s : Nat) : Int) := IntWalk.i64_in _ ⟨by omega, by omega⟩
  generalize crcN s = c at hc a1 HS HP q4
  go_enter Tryd.func43, Tryd.ntmps43
  go_wp2_with fail
  go_region_with (first
    | (go_at_call 35; (with_reducible refine (HS.out _).mono ?_); rintro e w1 ⟨rfl, rfl⟩)
    | (go_at_call 33; (with_reducible refine (HP.out _).mono ?_); rintro e w2 ⟨rfl, hb2⟩))
  all_goals
    go_wp2_with fail
    go_ret
    exact ⟨rfl, below_undrew' hb2⟩
end Go.Proofs.YtkcgcddpgfcgiaaDoor.ha
