/- What Put and Get of layer 1 return, those of the program and those of the reference. -/
import Derived.Test.YtmlclccfmlcabaaDoorCw
import Derived.Laws.BytesArg
import Derived.BigQuiet
import Derived.Deep.QuietTactic
import Derived.PlainAid
namespace Go.Proofs.YtmlclccfmlcabaaDoor.cp
open Go.ChangeShapes Go.WideShapes Go.ChangeAt Go.RowKit Go.Proofs.YtmlclccfmlcabaaDoor.cm Go.Proofs.YtmlclccfmlcabaaDoor.cw

/-- Byte i of a number in two's complement. -/
def byteAt (n : Int) (i : Nat) : Int := n / 2 ^ (8 * i) % 256
def putN (n : Int) (k : Nat) : List Int := (List.range k).map (byteAt n)
def putS (s : ByteArray) (n : Int) (k : Nat) : ByteArray := s ++ strOfNums (putN n k)

theorem putN_length (n : Int) (k : Nat) : (putN n k).length = k := by simp [putN]
theorem putN_get (n : Int) {k i : Nat} (hi : i < k) : (putN n k).getD i 0 = byteAt n i := by simp [putN, List.getD, hi]

theorem putS_zero (s : ByteArray) (n : Int) : putS s n 0 = s := by
  apply ByteArray.ext
  simp [putS, putN, strOfNums]

theorem putS_size (s : ByteArray) (n : Int) (k : Nat) : (putS s n k).size = s.size + k := by
  unfold putS
  rw [ByteArray.size_append, strOfNums_size, putN_length]
theorem byteAt_u64 (n : Int) (j : Nat) (hj : j < 8) : IntKind.u64.wrap n / 2 ^ (8 * j) % 256 = byteAt n j := by
  unfold byteAt
  rw [IntKind.wrap_u64]
  have h : j = 0 ∨ j = 1 ∨ j = 2 ∨ j = 3 ∨ j = 4 ∨ j = 5 ∨ j = 6 ∨ j = 7 := by omega
  rcases h with rfl | rfl | rfl | rfl | rfl | rfl | rfl | rfl <;> simp only [Nat.mul_zero, Nat.reduceMul, Int.pow_zero, Int.reducePow, Int.ediv_one] <;> omega
theorem putS_step (s : ByteArray) (n : Int) (j : Nat) (hj : j < 8) : putS s n j ++ strOfNums [IntKind.u64.wrap n / 2 ^ (8 * j) % 256] = putS s n (j + 1) := by
  rw [byteAt_u64 n j hj]
  apply ByteArray.ext
  simp [putS, putN, strOfNums, ByteArray.data_append, List.range_succ]
theorem conv1 (W : World) (x : Int) : (convert 62 9 (.slice (some ⟨W.heap.size, 0, none⟩) 1 1)).run Tryd.prog (W.alloc (.cells #[.int .u8 x] 5)) = .ok (.string (strOfNums [x])) (W.alloc (.cells #[.int .u8 x] 5)) :=
  run_convert_bytes_arg (P := Tryd.prog) _ 62 5 Tryd.underlying62 Tryd.underlying5 W.heap.size 0 1 1 [x] rfl (fun i hi => by
    obtain rfl : i = 0 := by omega
    go_simp) 9 Tryd.underlying9

theorem validSize_yes (n : Int) (w : World) (h1 : 1 ≤ n) (h8 : n ≤ 8) :
    Calls Tryd.prog 43 #[.int .i64 n] w fun e w' => e = .returned (.bool true) ∧ w = w' := by
  go_enter Tryd.func43, Tryd.ntmps43
  go_wp2
  go_ret
  exact ⟨rfl, rfl⟩
theorem bcell {W w1 : World} (hb : Below W.heap.size W w1) : (∀ b o, b < W.heap.size → w1.cell? ⟨b, o, none⟩ = W.cell? ⟨b, o, none⟩) ∧ (∀ b o, b < W.heap.size → w1.frozen? ⟨b, o, none⟩ = W.frozen? ⟨b, o, none⟩) :=
  ⟨fun b o h => hb.cell (p := ⟨b, o, none⟩) h, fun b o h => hb.frozen (p := ⟨b, o, none⟩) h⟩

/-- The array of eight bytes behind j rounds: the lowest j bytes of n, then zeros. -/
structure PutRow (n : Int) (j B : Nat) (w : World) : Prop where
  done : ∀ i, i < j → i < 8 → w.cell? ⟨B, i, none⟩ = some (.int .u8 (byteAt n i))
  rest : ∀ i, j ≤ i → i < 8 → w.cell? ⟨B, i, none⟩ = some (.int .u8 0)
  free : ∀ i, i < 8 → w.frozen? ⟨B, i, none⟩ = false
theorem PutRow.cellAt {n : Int} {j B : Nat} {w : World} (h : PutRow n j B w) (i : Nat) (hi : i < 8) : w.cell? ⟨B, i, none⟩ = some (.int .u8 (if i < j then byteAt n i else 0)) := by
  split
  · exact h.done i ‹_› hi
  · exact h.rest i (by omega) hi
theorem putRow_start (n : Int) (w : World) : PutRow n 0 w.heap.size (w.alloc (.cells #[.int .u8 0, .int .u8 0, .int .u8 0, .int .u8 0, .int .u8 0, .int .u8 0, .int .u8 0, .int .u8 0] 73)) := by
  refine ⟨fun i h => by omega, fun i _ h8 => ?_, fun i h8 => ?_⟩
  all_goals
    have h8' : i = 0 ∨ i = 1 ∨ i = 2 ∨ i = 3 ∨ i = 4 ∨ i = 5 ∨ i = 6 ∨ i = 7 := by omega
    rcases h8' with rfl | rfl | rfl | rfl | rfl | rfl | rfl | rfl <;> go_simp
theorem putRow_step {n : Int} {j B : Nat} {w : World} (h : PutRow n j B w) (hj : j < 8) : PutRow n (j + 1) B (w.setCell ⟨B, j, none⟩ (.int .u8 (byteAt n j))) := by
  have hne : ∀ i, i ≠ j → (⟨B, j, none⟩ : Addr) ≠ ⟨B, i, none⟩ := fun i h e => h (by injection e with _ e _; exact e.symm)
  refine ⟨fun i hi h8 => ?_, fun i hi h8 => ?_, fun i h8 => ?_⟩
  · by_cases e : i = j
    · subst e
      exact World.cell?_setCell_same (h := h.cellAt i h8) ..
    · rw [World.cell?_setCell_other (h := hne i e)]
      exact h.done i (by omega) h8
  · rw [World.cell?_setCell_other (h := hne i (by omega))]
    exact h.rest i (by omega) h8
  · rw [World.frozen?_setCell]
    exact h.free i h8

theorem slice8 (w : World) (B k : Nat) (hk : k ≤ 8) :
    (Instr.sliceAt 73 (.pointer (some ⟨B, 0, none⟩)) none (some (.int .i64 (k : Int))) none).run Tryd.prog w = .ok (.slice (some ⟨B, 0, none⟩) k 8) w := by
  have e8 : Tryd.prog.arrayLen 73 = 8 := by kernel_rfl
  have ht : Tryd.prog.underlying 73 = some (.array (Tryd.prog.arrayLen 73) (Tryd.prog.elem 73)) := by kernel_rfl
  have hs : (sizeOf (Tryd.prog.elem 73)).run Tryd.prog w = .ok 1 w := by kernel_rfl
  rw [run_sliceAt_array_h w 73 _ ht .i64 (k : Int) (by omega) (by rw [e8]; omega), hs]
  simp [Result.andThen, slicedAt, e8, Addr.add]

theorem put_yes (s : ByteArray) (n : Int) (k : Nat) (w : World) (hs : s.size ≤ 1099511627776) (h1 : 1 ≤ k) (h8 : k ≤ 8) :
    Calls Tryd.prog 27 #[.string s, .int .i64 n, .int .i64 (k : Int)] w fun e w' => e = .returned (.string (putS s n k)) ∧ Below w.heap.size w w' := by
  go_enter Tryd.func27, Tryd.ntmps27
  go_wp2_with (go_at_call 43; refine (validSize_yes _ _ (by omega) (by omega)).mono ?_; rintro e w' ⟨rfl, rfl⟩)
  go_loopw [14] (fun i wr => ∃ j : Nat, j ≤ k ∧ i = .int .i64 j ∧ Below w.heap.size w wr ∧ wr.heap.size = w.heap.size + 1 ∧ PutRow n j w.heap.size wr) (fun i _ => k - (intOf i).toNat)
  case atStart => exact ⟨0, Nat.zero_le _, rfl, (Below.refl _ _).alloc (Nat.le_refl _) _, by simp, putRow_start n w⟩
  case round =>
    obtain ⟨j, hj, rfl, hb, hz, hr⟩ := hrel
    by_cases hlt : j < k
    · have hcell := hr.cellAt j (by omega)
      have hfz := hr.free j (by omega)
      have HR := Lib.hid hr
      have HZ := Lib.hid hz
      clear hr hz
      go_wp2
      go_roundw
      case rel => exact ⟨j + 1, by omega, by go_num, hb.setCell (by simp) _, by simpa using HZ.out, putRow_step HR.out (by omega)⟩
      case measure => simp [intOf]; omega
    · obtain rfl : j = k := by omega
      have hconv := run_convert_bytes_arg (P := Tryd.prog) wr 62 5 Tryd.underlying62 Tryd.underlying5 w.heap.size 0 j 8 (putN n j) (by simp [putN])
        (fun i hi => by rw [Nat.zero_add, hr.done i hi (by omega), putN_get n hi]) 9 Tryd.underlying9
      have hcat : s.size + (strOfNums (putN n j)).size ≤ 9223372036854775807 := by rw [strOfNums_size, putN_length]; omega
      have HR := Lib.hid hr
      have HZ := Lib.hid hz
      clear hr hz
      have hsl := slice8 wr w.heap.size j h8
      go_wp2
      go_ret
      exact ⟨rfl, hb⟩

theorem validSize_no (n : Int) (w : World) (h : n < 1 ∨ 8 < n) :
    Calls Tryd.prog 43 #[.int .i64 n] w fun e w' => e = .returned (.bool false) ∧ w = w' := by
  rcases h with h | h
  · go_enter Tryd.func43, Tryd.ntmps43
    go_wp2
    go_ret
    exact ⟨rfl, rfl⟩
  · have hd : decide (n ≤ 8) = false := by simp; omega
    go_enter Tryd.func43, Tryd.ntmps43
    go_wp2
    go_ret
    exact ⟨rfl, rfl⟩
theorem put_no (s : ByteArray) (n k : Int) (w : World) (h : k < 1 ∨ 8 < k) :
    Calls Tryd.prog 27 #[.string s, .int .i64 n, .int .i64 k] w fun e w' => e = .returned (.string s) ∧ Below w.heap.size w w' := by
  go_enter Tryd.func27, Tryd.ntmps27
  go_wp2_with (go_at_call 43; refine (validSize_no _ _ h).mono ?_; rintro e w' ⟨rfl, rfl⟩)
  go_ret
  exact ⟨rfl, Below.refl _ _⟩
end Go.Proofs.YtmlclccfmlcabaaDoor.cp
