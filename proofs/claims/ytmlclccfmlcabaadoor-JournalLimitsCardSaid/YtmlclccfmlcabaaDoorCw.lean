/- What the functions of layer 1 return: the checksum, numbers of fixed length. -/
import Derived.Test.YtmlclccfmlcabaaDoorChecked
import Derived.Test.YtmlclccfmlcabaaDoorYa
import Derived.Test.YtmlclccfmlcabaaDoorCm
import Derived.WalkKit
import Derived.ProofKit
import Derived.OpenShut
import Derived.Outline
import Derived.Lib.Hide
namespace Go.Proofs.YtmlclccfmlcabaaDoor.cw
open Go.ChangeShapes Go.WideShapes Go.ChangeAt Go.RowKit Go.Proofs.YtmlclccfmlcabaaDoor.cm

/-- The table of remainders holds its sixteen numbers. -/
def TabOk (w : World) : Prop := ∀ k : Nat, k < 16 → w.cell? ⟨0, k, none⟩ = some (.int .u32 ((tab.getD k 0 : Nat) : Int))

theorem tab_lt : ∀ k : Fin 16, tab.getD k.val 0 < 4294967296 := by decide
theorem ret_u32 {a b : Int} (h : a = b) : Ending.returned (.int .u32 a) = .returned (.int .u32 b) := by rw [h]

theorem shiftHalf_any (n : Nat) (w : World) (hn : n < 4294967296) (hw : TabOk w) :
    Calls Tryd.prog 44 #[.int .u32 (n : Int)] w fun e w' => e = .returned (.int .u32 ((half n : Nat) : Int)) ∧ w = w' := by
  have hb := bits_and15 n hn
  have hm : n % 16 < 16 := by omega
  have hc := hw (n % 16) hm
  have H : Hid (bits .xor .u32 ((n : Int) / 16) ((tab.getD (n % 16) 0 : Nat) : Int) = ((half n : Nat) : Int)) := by
    rw [show ((n : Int) / 16) = ((n / 16 : Nat) : Int) from by omega]
    exact bits_xor (n / 16) _ (by omega) (tab_lt ⟨n % 16, hm⟩)
  clear hw
  generalize tab.getD (n % 16) 0 = t at hc H
  go_enter Tryd.func44, Tryd.ntmps44
  go_wp2
  go_ret
  exact ⟨ret_u32 H.out, rfl⟩

theorem crcFrom_take (s : ByteArray) (k : Nat) (h : k < s.size) : crcFrom 4294967295 (s.data.toList.take (k + 1)) = bytestep (crcFrom 4294967295 (s.data.toList.take k)) s[k].toNat := by
  rw [List.take_succ_eq_append_getElem (by simpa using h), crcFrom_snoc]; rfl

theorem sum_any (s : ByteArray) (w : World) (hs : s.size ≤ maxLen) (hw : TabOk w) :
    Calls Tryd.prog 28 #[.string s] w fun e w' => e = .returned (.int .u32 ((crc s.data.toList : Nat) : Int)) ∧ w = w' := by
  unfold maxLen at hs
  go_enter Tryd.func28, Tryd.ntmps28
  go_wp2
  go_loop [3, 7] (fun c i => ∃ k : Nat, k ≤ s.size ∧ i = .int .i64 k ∧ c = .int .u32 ((crcFrom 4294967295 (s.data.toList.take k) : Nat) : Int)) (fun _ i => s.size - (intOf i).toNat)
  case atStart => exact ⟨0, Nat.zero_le _, rfl, rfl⟩
  case round =>
    obtain ⟨k, hk, rfl, rfl⟩ := hrel
    by_cases hlt : k < s.size
    · have hs1 := crcFrom_take s k hlt
      have hl := crcFrom_lt (s.data.toList.take k) (c := 4294967295) (by decide)
      generalize crcFrom 4294967295 (s.data.toList.take k) = c at hs1 hl
      have hx := bits_xor c s[k].toNat hl (byte_lt _)
      have hx1 : c ^^^ s[k].toNat < 4294967296 := Nat.xor_lt_two_pow (n := 32) hl (byte_lt _)
      have hx2 := half_lt hx1
      rw [← bytestep_half] at hs1
      have H := Lib.hid hs1
      clear hs1
      have hmod : ((s[k].toNat : Nat) : Int) % 4294967296 = ((s[k].toNat : Nat) : Int) := by have := s[k].toNat_lt; omega
      go_wp2_with (go_at_call 44; refine (shiftHalf_any _ w (by assumption) hw).mono ?_; rintro e w' ⟨rfl, rfl⟩)
      go_round
      case rel => exact ⟨k + 1, by omega, by go_num, by rw [H.out]⟩
      case measure => simp [intOf]; omega
    · have hkk : k = s.size := by omega
      have H : Hid (bits .xor .u32 IntKind.u32.max ((crcFrom 4294967295 (List.take s.size s.data.toList) : Nat) : Int) = ((crc s.data.toList : Nat) : Int)) := by
        rw [List.take_of_length_le (by simp)]
        have e : IntKind.u32.max = ((4294967295 : Nat) : Int) := by decide
        rw [e]
        rw [bits_xor _ _ (by decide) (crcFrom_lt _ (by decide)), Nat.xor_comm]
        rfl
      go_wp2
      go_ret
      exact ⟨ret_u32 H.out, rfl⟩

theorem bsteps_succ (k c : Nat) : bsteps (k + 1) c = bstep (bsteps k c) := by rw [bsteps_add]; rfl

end Go.Proofs.YtmlclccfmlcabaaDoor.cw
