/- CodecNumbers: the bytes of any numbers, and the numbers of any bytes, are those of the reference. -/
import Derived.Test.YtpfcnppaancmfaaDoorCa
namespace Go.Proofs.YtpfcnppaancmfaaDoor.cn
open Go.ChangeShapes Go.WideShapes Go.ChangeAt Go.RowKit Go.Proofs.YtpfcnppaancmfaaDoor.cm Go.Proofs.YtpfcnppaancmfaaDoor.cw Go.Proofs.YtpfcnppaancmfaaDoor.cp Go.Proofs.YtpfcnppaancmfaaDoor.cg Go.Proofs.YtpfcnppaancmfaaDoor.ca

/-- Block b begins with these values. -/
def Has (b : Nat) (l : List Value) (w : World) : Prop := b < w.heap.size ∧ ∀ i v, l[i]? = some v → w.cell? ⟨b, i, none⟩ = some v
theorem Has.below {b : Nat} {l : List Value} {w w' : World} (h : Has b l w) (hb : Below w.heap.size w w') : Has b l w' :=
  ⟨Nat.lt_of_lt_of_le h.1 hb.size, fun i v hi => (hb.cell (p := ⟨b, i, none⟩) h.1).trans (h.2 i v hi)⟩
theorem Has.alloc {b : Nat} {l : List Value} {w : World} (h : Has b l w) (o : Obj) : Has b l (w.alloc o) := h.below ((Below.refl _ _).alloc (Nat.le_refl _) _)
theorem Has.new (l : List Value) (w : World) (t : TypeId) : Has w.heap.size l (w.alloc (.cells l.toArray t)) := by
  refine ⟨by simp, fun i v hi => ?_⟩
  have h2 : (w.alloc (.cells l.toArray t)).heap[w.heap.size]? = some (.cells l.toArray t) := by simp [World.alloc, -World.alloc_eq]
  unfold World.cell?
  simp only [h2]
  simpa using hi

/-- What Put returns for any size. -/
def putV (s : ByteArray) (n x : Int) : ByteArray := if 1 ≤ x ∧ x ≤ 8 then putS s n x.toNat else s
/-- What Get returns for any index and size: the number, the error. -/
def getA (s : ByteArray) (y x : Int) : Int := if (1 ≤ x ∧ x ≤ 8 ∧ 0 ≤ y) ∧ y + x ≤ s.size then getN s y.toNat x.toNat else 0
def getE (s : ByteArray) (y x : Int) : Int := if 1 ≤ x ∧ x ≤ 8 ∧ 0 ≤ y then (if y + x ≤ s.size then 0 else 5) else 1
def Got (s : ByteArray) (y x : Int) (w : World) (e : Ending) (w' : World) : Prop := e = .returned (.tuple #[.int .i64 (getA s y x), .int .i64 (getE s y x)]) ∧ w = w'
def Put (s : ByteArray) (n x : Int) (w : World) (e : Ending) (w' : World) : Prop := e = .returned (.string (putV s n x)) ∧ Below w.heap.size w w'

theorem put_any (s : ByteArray) (n x : Int) (w : World) (hs : s.size ≤ 1099511627776) : Calls Tryd.prog 9 #[.string s, .int .i64 n, .int .i64 x] w (Put s n x w) := by
  unfold Put putV
  split
  · rename_i h
    have := put_yes s n x.toNat w hs (by omega) (by omega)
    rwa [show ((x.toNat : Nat) : Int) = x from by omega] at this
  · exact put_no s n x w (by omega)
theorem refPut_any (s : ByteArray) (n x : Int) (w : World) (hs : s.size ≤ 1099511627776) : Calls Tryd.prog 10 #[.string s, .int .i64 n, .int .i64 x] w (Put s n x w) := by
  unfold Put putV
  split
  · rename_i h
    have := refPut_yes s n x.toNat w hs (by omega) (by omega)
    rwa [show ((x.toNat : Nat) : Int) = x from by omega] at this
  · exact refPut_no s n x w (by omega)
theorem got_of {s : ByteArray} {f : FuncId} {y x : Int} {w : World}
    (hy : ∀ a k : Nat, 1 ≤ k → k ≤ 8 → a + k ≤ s.size → Calls Tryd.prog f #[.string s, .int .i64 (a : Int), .int .i64 (k : Int)] w fun e w' => e = .returned (.tuple #[.int .i64 (getN s a k), .int .i64 0]) ∧ w = w')
    (hr : (x < 1 ∨ 8 < x ∨ y < 0) → Calls Tryd.prog f #[.string s, .int .i64 y, .int .i64 x] w fun e w' => e = .returned (.tuple #[.int .i64 0, .int .i64 1]) ∧ w = w')
    (hn : 1 ≤ x → x ≤ 8 → 0 ≤ y → (s.size : Int) < y + x → Calls Tryd.prog f #[.string s, .int .i64 y, .int .i64 x] w fun e w' => e = .returned (.tuple #[.int .i64 0, .int .i64 5]) ∧ w = w') :
    Calls Tryd.prog f #[.string s, .int .i64 y, .int .i64 x] w (Got s y x w) := by
  unfold Got getA getE
  by_cases h : 1 ≤ x ∧ x ≤ 8 ∧ 0 ≤ y
  · by_cases h2 : y + x ≤ s.size
    · rw [if_pos ⟨h, h2⟩, if_pos h, if_pos h2]
      have := hy y.toNat x.toNat (by omega) (by omega) (by omega)
      rwa [show ((x.toNat : Nat) : Int) = x from by omega, show ((y.toNat : Nat) : Int) = y from by omega] at this
    · rw [if_neg (fun e => h2 e.2), if_pos h, if_neg h2]
      exact hn h.1 h.2.1 h.2.2 (by omega)
  · rw [if_neg (fun e => h e.1), if_neg h]
    exact hr (by omega)
theorem get_any (s : ByteArray) (y x : Int) (w : World) (hs : s.size ≤ 1099511627776) : Calls Tryd.prog 11 #[.string s, .int .i64 y, .int .i64 x] w (Got s y x w) :=
  got_of (fun a k h1 h8 ha => get_yes s a k w hs h1 h8 ha) (fun h => get_range s y x w h) (fun h1 h8 h0 h => get_short s y x w hs h1 h8 h0 h)
theorem refGet_any (s : ByteArray) (y x : Int) (w : World) (hs : s.size ≤ 1099511627776) : Calls Tryd.prog 12 #[.string s, .int .i64 y, .int .i64 x] w (Got s y x w) :=
  got_of (fun a k h1 h8 ha => refGet_yes s a k w hs h1 h8 ha) (fun h => refGet_range s y x w h) (fun h1 h8 h0 h => refGet_short s y x w hs h1 h8 h0 h)

theorem numbers_long (s : ByteArray) (n a x k : Int) (w : World) (hw : TabOk w) (h : 400 < s.size) :
    Calls Tryd.prog 3 #[.string s, .int .i64 n, .int .i64 a, .int .i64 x, .int .u8 k] w fun e w' => e = .returned (.bool true) ∧ Below w.heap.size w w' := by
  go_enter Tryd.func3, Tryd.ntmps3
  go_wp2_with (go_at_call 8; refine (awake_any _ hw).mono ?_; rintro e w1 ⟨rfl, hb1⟩)
  go_ret
  exact ⟨rfl, by assumption⟩

theorem numbers_walk (s : ByteArray) (n a x k : Int) (w : World) (hw : TabOk w) (h : s.size ≤ 400) (hk : 0 ≤ k) (hk2 : k ≤ 255) :
    Calls Tryd.prog 3 #[.string s, .int .i64 n, .int .i64 a, .int .i64 x, .int .u8 k] w fun e w' => e = .returned (.bool true) ∧ Below w.heap.size w w' := by
  go_enter Tryd.func3, Tryd.ntmps3
  go_wp2_with (go_at_call 8; refine (awake_any _ hw).mono ?_; rintro e w1 ⟨rfl, hb1⟩)
  have hz1 := hb1.size
  have A0 := Has.new [.int .i64 x, .int .i64 (k % 11), .int .i64 8] w1 3
  have B0 : Below w.heap.size w (w1.alloc (.cells #[.int .i64 x, .int .i64 (k % 11), .int .i64 8] 3)) := hb1.alloc hz1 _
  go_loopw [35] (fun i wr => ∃ j : Nat, j ≤ 3 ∧ i = .int .i64 j ∧ Has w1.heap.size [.int .i64 x, .int .i64 (k % 11), .int .i64 8] wr ∧ Below w.heap.size w wr) (fun i _ => 3 - (intOf i).toNat)
  case atStart => exact ⟨0, by omega, rfl, A0, B0⟩
  case round =>
    obtain ⟨j, hj, rfl, hA, hb⟩ := hrel
    obtain ⟨wo, rfl⟩ : ∃ wo : World, wo = wr := ⟨_, rfl⟩
    clear A0 B0
    by_cases hlt : j < 3
    · obtain ⟨z, hcell⟩ : ∃ z : Int, wo.cell? ⟨w1.heap.size, j, none⟩ = some (.int .i64 z) := by
        have h3 : j = 0 ∨ j = 1 ∨ j = 2 := by omega
        rcases h3 with rfl | rfl | rfl
        · exact ⟨_, hA.2 0 _ rfl⟩
        · exact ⟨_, hA.2 1 _ rfl⟩
        · exact ⟨_, hA.2 2 _ rfl⟩
      have hz := hb.size
      have HA := Lib.hid hA
      clear hA
      go_wp2_with (first
        | (go_at_call 9; refine (put_any _ _ _ _ (by omega)).mono ?_; rintro e w2 ⟨rfl, hb2⟩)
        | (go_at_call 10; refine (refPut_any _ _ _ _ (by omega)).mono ?_; rintro e w3 ⟨rfl, hb3⟩))
      have hz2 := hb2.size
      have hz3 := hb3.size
      have b3 : Below w.heap.size w w3 := (hb.trans (hb2.mono hz)).trans (hb3.mono (by omega))
      have a3 : Hid (Has w1.heap.size [.int .i64 x, .int .i64 (k % 11), .int .i64 8] w3) := (HA.out.below hb2).below hb3
      have a4 := Lib.hid (a3.out.alloc (.cells #[.int .i64 a, .int .i64 0, .int .i64 (k / 11), .int .i64 s.size, .int .i64 (wrap64 (s.size - z))] 3))
      have c4 := Lib.hid (Has.new [.int .i64 a, .int .i64 0, .int .i64 (k / 11), .int .i64 s.size, .int .i64 (wrap64 (s.size - z))] w3 3)
      have b4 : Below w.heap.size w (w3.alloc (.cells #[.int .i64 a, .int .i64 0, .int .i64 (k / 11), .int .i64 s.size, .int .i64 (wrap64 (s.size - z))] 3)) := b3.alloc (by omega) _
      clear hcell
      go_loopw [60] (fun i wi => ∃ q : Nat, q ≤ 5 ∧ i = .int .i64 q ∧ Has w1.heap.size [.int .i64 x, .int .i64 (k % 11), .int .i64 8] wi ∧ Has w3.heap.size [.int .i64 a, .int .i64 0, .int .i64 (k / 11), .int .i64 s.size, .int .i64 (wrap64 (s.size - z))] wi ∧ Below w.heap.size w wi) (fun i _ => 5 - (intOf i).toNat)
      case atStart => exact ⟨0, by omega, rfl, a4.out, c4.out, b4⟩
      case round =>
        obtain ⟨q, hq, rfl, ha, hc, hbi⟩ := hrel
        by_cases hlt5 : q < 5
        · obtain ⟨y, hcell⟩ : ∃ y : Int, wr.cell? ⟨w3.heap.size, q, none⟩ = some (.int .i64 y) := by
            have h5 : q = 0 ∨ q = 1 ∨ q = 2 ∨ q = 3 ∨ q = 4 := by omega
            rcases h5 with rfl | rfl | rfl | rfl | rfl
            · exact ⟨_, hc.2 0 _ rfl⟩
            · exact ⟨_, hc.2 1 _ rfl⟩
            · exact ⟨_, hc.2 2 _ rfl⟩
            · exact ⟨_, hc.2 3 _ rfl⟩
            · exact ⟨_, hc.2 4 _ rfl⟩
          have HA2 := Lib.hid ha
          have HC2 := Lib.hid hc
          clear ha hc
          go_wp2_with (first
            | (go_at_call 11; refine (get_any _ _ _ _ (by omega)).mono ?_; rintro e w5 ⟨rfl, rfl⟩)
            | (go_at_call 12; refine (refGet_any _ _ _ _ (by omega)).mono ?_; rintro e w5 ⟨rfl, rfl⟩))
          go_roundw
          case rel => exact ⟨q + 1, by omega, by go_num, HA2.out, HC2.out, hbi⟩
          case measure => simp [intOf]; omega
        · obtain rfl : q = 5 := by omega
          go_wp2
          go_roundw
          case rel => exact ⟨j + 1, by omega, by go_num, ha, hbi⟩
          case measure => simp [intOf]; omega
    · obtain rfl : j = 3 := by omega
      go_wp2
      go_ret
      exact ⟨rfl, hb⟩
end Go.Proofs.YtpfcnppaancmfaaDoor.cn
