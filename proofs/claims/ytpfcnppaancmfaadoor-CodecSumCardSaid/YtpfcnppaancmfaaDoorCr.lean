/- CodecSum: the walk. -/
import Derived.Test.YtpfcnppaancmfaaDoorCq
namespace Go.Proofs.YtpfcnppaancmfaaDoor.cr
open Go.ChangeShapes Go.WideShapes Go.ChangeAt Go.RowKit Go.Proofs.YtpfcnppaancmfaaDoor.cm Go.Proofs.YtpfcnppaancmfaaDoor.cw Go.Proofs.YtpfcnppaancmfaaDoor.cp Go.Proofs.YtpfcnppaancmfaaDoor.cg Go.Proofs.YtpfcnppaancmfaaDoor.ca Go.Proofs.YtpfcnppaancmfaaDoor.cu Go.Proofs.YtpfcnppaancmfaaDoor.cd Go.Proofs.YtpfcnppaancmfaaDoor.cn Go.Proofs.YtpfcnppaancmfaaDoor.cq

theorem bytesWorld_frozen (w : World) (e : TypeId) (s : ByteArray) (j : Nat) (hj : j < s.size) : (Lib.bytesWorld w e s).frozen? ⟨w.heap.size, j, none⟩ = false := by
  have hc : s.size ≤ (Lib.bytesCells w e s).size := by simp [Lib.bytesCells]
  simp [World.frozen?, Lib.bytesWorld_at_new]
  omega

/-- The row of the changed text behind j rounds. -/
structure SumRow (s : ByteArray) (b : Nat → Int) (a j B : Nat) (w : World) : Prop where
  cell : ∀ q, q < s.size → w.cell? ⟨B, q, none⟩ = some (.int .u8 (curAt s b a j q))
  free : ∀ q, q < s.size → w.frozen? ⟨B, q, none⟩ = false
theorem sumRow_start (s : ByteArray) (b : Nat → Int) (a : Nat) (w : World) : SumRow s b a 0 w.heap.size (Lib.bytesWorld w 5 s) := by
  refine ⟨fun q hq => ?_, fun q hq => bytesWorld_frozen w 5 s q hq⟩
  rw [Lib.bytesWorld_cell w 5 s q hq]
  unfold curAt
  rw [if_neg (by omega)]
theorem SumRow.drew {s : ByteArray} {b : Nat → Int} {a j B : Nat} {w : World} (h : SumRow s b a j B w) : SumRow s b a j B w.drew := ⟨fun q hq => h.cell q hq, fun q hq => h.free q hq⟩
theorem sumRow_skip {s : ByteArray} {b : Nat → Int} {a j B : Nat} {w : World} (h : SumRow s b a j B w) (_hj : s.size ≤ a + j) : SumRow s b a (j + 1) B w := by
  refine ⟨fun q hq => ?_, h.free⟩
  rw [h.cell q hq]
  unfold curAt
  congr 2
  by_cases c : a ≤ q
  · rw [if_pos ⟨c, by omega⟩, if_pos ⟨c, by omega⟩]
  · rw [if_neg (by omega), if_neg (by omega)]
theorem sumRow_step {s : ByteArray} {b : Nat → Int} {a j B : Nat} {w : World} (h : SumRow s b a j B w) (_hj : a + j < s.size) : SumRow s b a (j + 1) B (w.setCell ⟨B, a + j, none⟩ (.int .u8 (bits .xor .u8 ((s.data.toList.getD (a + j) 0).toNat : Int) (b j)))) := by
  have hne : ∀ q, q ≠ a + j → (⟨B, a + j, none⟩ : Addr) ≠ ⟨B, q, none⟩ := fun q hq e => hq (by injection e with _ e _; exact e.symm)
  refine ⟨fun q hq => ?_, fun q hq => by rw [World.frozen?_setCell]; exact h.free q hq⟩
  by_cases e : q = a + j
  · subst e
    rw [World.cell?_setCell_same (h := h.cell _ hq)]
    unfold curAt
    rw [if_pos ⟨by omega, by omega⟩, Nat.add_sub_cancel_left]
  · rw [World.cell?_setCell_other (h := hne q e), h.cell q hq]
    unfold curAt
    congr 2
    by_cases c : a ≤ q ∧ q < a + j
    · rw [if_pos c, if_pos ⟨c.1, by omega⟩]
    · rw [if_neg c, if_neg (by omega)]
theorem curAt_here (s : ByteArray) (b : Nat → Int) (a j : Nat) : curAt s b a j (a + j) = ((s.data.toList.getD (a + j) 0).toNat : Int) := by
  unfold curAt
  rw [if_neg (by omega)]

theorem sum_long (s : ByteArray) (t b0 b1 b2 b3 : Int) (w : World) (hw : TabOk w) (h : 500 < s.size) :
    Calls Tryd.prog 7 #[.string s, .int .u16 t, .agg #[.int .u8 b0, .int .u8 b1, .int .u8 b2, .int .u8 b3]] w fun e w' => e = .returned (.bool true) ∧ Below w.heap.size w w' := by
  have hz := tab_size hw
  go_enter Tryd.func7, Tryd.ntmps7
  go_wp2_with (go_at_call 8; refine (awake_any _ (by exact tab_below hw ((Below.refl _ _).alloc (Nat.le_refl _) _) hz)).mono ?_; rintro e w1 ⟨rfl, hb1⟩)
  go_ret
  exact ⟨rfl, ((Below.refl _ _).alloc (Nat.le_refl _) _).trans (hb1.mono (by simp))⟩

theorem sum_walk (s : ByteArray) (t : Int) (b : Nat → Int) (a : Nat) (w : World) (hw : TabOk w) (h : s.size ≤ 500) (h0 : 0 < s.size) (ht : 0 ≤ t) (ht2 : t ≤ 65535) (ha : t % (s.size : Int) = a) (hb : ∀ j, 0 ≤ b j ∧ b j ≤ 255) :
    Calls Tryd.prog 7 #[.string s, .int .u16 t, .agg #[.int .u8 (b 0), .int .u8 (b 1), .int .u8 (b 2), .int .u8 (b 3)]] w fun e w' => e = .returned (.bool true) ∧ Below w.heap.size w w' := by
  have hz := tab_size hw
  have ha5 : a < s.size := by have := Int.emod_lt_of_pos t (show 0 < (s.size : Int) by omega); omega
  have hcv := fun W : World => Lib.run_convert_string_bytes (P := Tryd.prog) W 9 31 5 s Tryd.underlying9 Tryd.underlying31 Tryd.underlying5
  go_enter Tryd.func7, Tryd.ntmps7
  go_wp2_with (go_at_call 8; refine (awake_any _ (by exact tab_below hw ((Below.refl _ _).alloc (Nat.le_refl _) _) hz)).mono ?_; rintro e w1 ⟨rfl, hb1⟩)
  have hz1 := hb1.size
  have z0 : (w.alloc (.cells #[.int .u8 (b 0), .int .u8 (b 1), .int .u8 (b 2), .int .u8 (b 3)] 44)).heap.size = w.heap.size + 1 := by simp
  have A0 : Has w.heap.size [.int .u8 (b 0), .int .u8 (b 1), .int .u8 (b 2), .int .u8 (b 3)] w1 := (Has.new _ w 44).below hb1
  have A1 := Lib.hid (A0.below (Joins.below_bytesWorld w1.heap.size w1 5 s (Nat.le_refl _)))
  have B1 : Below w.heap.size w (Lib.bytesWorld w1 5 s) := (((Below.refl _ _).alloc (Nat.le_refl _) _).trans (hb1.mono (by omega))).trans (Joins.below_bytesWorld w.heap.size w1 5 s (by omega))
  have R0 := Lib.hid (sumRow_start s b a w1)
  have hne : w.heap.size < w1.heap.size := by omega
  clear A0 hcv
  generalize grownCap w1 s.size 0 5 = cap
  generalize Lib.bytesWorld w1 5 s = w2 at A1 B1 R0
  go_loopw [8, 9] (fun c i wr => ∃ j : Nat, j ≤ 4 ∧ i = .int .i64 j ∧ c = .bool (chg s.size b a j) ∧ Has w.heap.size [.int .u8 (b 0), .int .u8 (b 1), .int .u8 (b 2), .int .u8 (b 3)] wr ∧ SumRow s b a j w1.heap.size wr ∧ Below w.heap.size w wr) (fun _ i _ => 4 - (intOf i).toNat)
  case atStart => exact ⟨0, by omega, rfl, rfl, A1.out, R0.out, B1⟩
  case round =>
    obtain ⟨j, hj, rfl, rfl, hA, hR, hB⟩ := hrel
    by_cases hlt : j < 4
    · by_cases hin : a + j < s.size
      · have hcell := hR.cell (a + j) hin
        rw [curAt_here] at hcell
        have hfree := hR.free (a + j) hin
        have hcb : wr.cell? ⟨w.heap.size, j, none⟩ = some (.int .u8 (b j)) := by
          have h4 : j = 0 ∨ j = 1 ∨ j = 2 ∨ j = 3 := by omega
          rcases h4 with rfl | rfl | rfl | rfl
          · exact hA.2 0 _ rfl
          · exact hA.2 1 _ rfl
          · exact hA.2 2 _ rfl
          · exact hA.2 3 _ rfl
        have hcb2 : ∀ v, (wr.setCell ⟨w1.heap.size, a + j, none⟩ v).cell? ⟨w.heap.size, j, none⟩ = some (.int .u8 (b j)) := fun v => by
          rw [World.cell?_setCell_other (h := fun e => by injection e with e _ _; omega), hcb]
        have q0 : (0 : Int) ≤ (a : Int) + j := by omega
        have q1 : (a : Int) + j < s.size := by omega
        have q2 : ((a : Int) + j).toNat = a + j := by omega
        have HA := Lib.hid hA
        have HR := Lib.hid (sumRow_step hR hin)
        have HC : Hid (chg s.size b a (j + 1) = (chg s.size b a j || (b j != 0))) := by
          have : chg s.size b a (j + 1) = (chg s.size b a j || (decide (a + j < s.size) && (b j != 0))) := rfl
          rw [decide_eq_true hin, Bool.true_and] at this
          exact this
        have HA2 : Hid (Has w.heap.size [.int .u8 (b 0), .int .u8 (b 1), .int .u8 (b 2), .int .u8 (b 3)] (wr.setCell ⟨w1.heap.size, a + j, none⟩ (.int .u8 (bits .xor .u8 ((s.data.toList.getD (a + j) 0).toNat : Int) (b j))))) := by
          refine ⟨by simpa using hA.1, fun i v hv => ?_⟩
          rw [World.cell?_setCell_other (h := fun e => by injection e with e _ _; omega)]
          exact hA.2 i v hv
        have HB2 := hB.setCell (p := ⟨w1.heap.size, a + j, none⟩) (by exact Nat.le_of_lt hne) (.int .u8 (bits .xor .u8 ((s.data.toList.getD (a + j) 0).toNat : Int) (b j)))
        clear hA hR hb
        generalize ((s.data.toList.getD (a + j) 0).toNat : Int) = x at hcell HR HA2 HB2
        go_wp2
        go_region
        clear hcell hfree hcb
        by_cases hch : chg s.size b a j = true
        · go_wp2
          go_roundw
          case rel => exact ⟨j + 1, by omega, by go_num, by rw [HC.out, hch]; rfl, HA2.out, HR.out.drew, HB2.drew⟩
          case measure => simp [intOf]; omega
        · have hch2 : chg s.size b a j = false := by simpa using hch
          clear hch
          go_wp2
          go_roundw
          case rel => exact ⟨j + 1, by omega, by go_num, by rw [HC.out, hch2]; rfl, HA2.out, HR.out.drew, HB2.drew⟩
          case measure => simp [intOf]; omega
      · have HA := Lib.hid hA
        have HR := Lib.hid (sumRow_skip hR (by omega))
        have HC : Hid (chg s.size b a (j + 1) = chg s.size b a j) := by
          have : chg s.size b a (j + 1) = (chg s.size b a j || (decide (a + j < s.size) && (b j != 0))) := rfl
          rw [decide_eq_false hin, Bool.false_and, Bool.or_false] at this
          exact this
        have q1 : (s.size : Int) ≤ (a : Int) + j := by omega
        have q2 : ¬ (a : Int) + j < s.size := by omega
        clear hA hR hb
        go_wp2
        go_roundw
        case rel => exact ⟨j + 1, by omega, by go_num, by rw [HC.out], HA.out, HR.out, hB⟩
        case measure => simp [intOf]; omega
    · obtain rfl : j = 4 := by omega
      have hconv0 := run_convert_bytes_arg (P := Tryd.prog) wr 31 5 Tryd.underlying31 Tryd.underlying5 w1.heap.size 0 s.size cap ((List.range s.size).map (curAt s b a 4)) (by simp)
        (fun i hi => by rw [Nat.zero_add, hR.cell i hi]; simp [List.getD, hi]) 9 Tryd.underlying9
      have hconv : (convert 31 9 (.slice (some ⟨w1.heap.size, 0, none⟩) s.size cap)).run Tryd.prog wr = .ok (.string (curS s b a)) wr := hconv0
      clear hconv0
      have hcs : (curS s b a).size = s.size := by
        have := curS_len s b a
        simpa using this
      have hs4 := sum_same s b a hb
      have hT := tab_below hw hB hz
      clear hA hR hb
      by_cases hch : chg s.size b a 4 = true
      · have hne2 : (((crcN (curS s b a) : Nat) : Int) == ((crcN s : Nat) : Int)) = false := by
          have : ¬ crcN (curS s b a) = crcN s := fun e => by rw [hs4.1 e] at hch; cases hch
          have h2 : ((crcN (curS s b a) : Nat) : Int) ≠ ((crcN s : Nat) : Int) := by omega
          simpa using h2
        clear hs4
        go_wp2_with (go_at_call 19; refine (sum_n _ _ (by omega) hT).mono ?_; rintro e w4 ⟨rfl, rfl⟩)
        go_ret
        exact ⟨rfl, hB⟩
      · have hch2 : chg s.size b a 4 = false := by simpa using hch
        have heq := hs4.2 hch2
        clear hs4 hch
        go_wp2_with (go_at_call 19; refine (sum_n _ _ (by omega) hT).mono ?_; rintro e w4 ⟨rfl, rfl⟩)
        go_ret
        exact ⟨rfl, hB⟩

theorem sum_empty (t b0 b1 b2 b3 : Int) (w : World) (hw : TabOk w) :
    Calls Tryd.prog 7 #[.string ⟨#[]⟩, .int .u16 t, .agg #[.int .u8 b0, .int .u8 b1, .int .u8 b2, .int .u8 b3]] w fun e w' => e = .returned (.bool true) ∧ Below w.heap.size w w' := by
  have hz := tab_size hw
  have hcv := fun W : World => Lib.run_convert_string_bytes (P := Tryd.prog) W 9 31 5 ⟨#[]⟩ Tryd.underlying9 Tryd.underlying31 Tryd.underlying5
  have hback : ∀ (W : World) (B cap : Nat), (convert 31 9 (.slice (some ⟨B, 0, none⟩) 0 cap)).run Tryd.prog W = .ok (.string ⟨#[]⟩) W := fun W B cap =>
    run_convert_bytes_arg (P := Tryd.prog) W 31 5 Tryd.underlying31 Tryd.underlying5 B 0 0 cap [] rfl (fun i hi => by omega) 9 Tryd.underlying9
  go_enter Tryd.func7, Tryd.ntmps7
  go_wp2_with (go_at_call 8; refine (awake_any _ (by exact tab_below hw ((Below.refl _ _).alloc (Nat.le_refl _) _) hz)).mono ?_; rintro e w1 ⟨rfl, hb1⟩)
  have hz1 := hb1.size
  have z0 : (w.alloc (.cells #[.int .u8 b0, .int .u8 b1, .int .u8 b2, .int .u8 b3] 44)).heap.size = w.heap.size + 1 := by simp
  have B1 : Below w.heap.size w (Lib.bytesWorld w1 5 ⟨#[]⟩) := (((Below.refl _ _).alloc (Nat.le_refl _) _).trans (hb1.mono (by omega))).trans (Joins.below_bytesWorld w.heap.size w1 5 ⟨#[]⟩ (by omega))
  have hT := tab_below hw B1 hz
  clear hcv
  refine wp_loop_rounds 1 ?_
  rw [rounds_succ]
  go_wp2_with (go_at_call 19; refine (sum_n _ _ (by decide) hT).mono ?_; rintro e w4 ⟨rfl, rfl⟩)
  go_ret
  exact ⟨rfl, B1⟩
end Go.Proofs.YtpfcnppaancmfaaDoor.cr
