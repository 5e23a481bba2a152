/- Spoilt of pagemenddraw: some text, at most one byte longer. -/
import Derived.Test.YtiojpfljnbdonaaCh
import Derived.Test.YtiojpfljnbdonaaEa
import Derived.Deep.RegionWith
namespace Go.Proofs.Ytiojpfljnbdonaa.cy
open Go.ChangeShapes Go.WideShapes Go.ChangeAt Go.RowKit Go.Proofs.Ytiojpfljnbdonaa.cg Go.Proofs.Ytiojpfljnbdonaa.ch Go.Proofs.Ytiojpfljnbdonaa.cp Go.Proofs.Ytiojpfljnbdonaa.cx Go.Proofs.Ytiojpfljnbdonaa.da Go.Proofs.Ytiojpfljnbdonaa.ea Go.Proofs.Ytiojpfljnbdonaa.ra Go.Proofs.Ytiojpfljnbdonaa.rb Go.Proofs.Ytiojpfljnbdonaa.rc Go.Proofs.Ytiojpfljnbdonaa.ya
def Spoilt (p n : Nat) (w : World) (e : Ending) (w' : World) : Prop :=
  ∃ r : ByteArray, e = .returned (.string r) ∧ r.size ≤ n + 1 ∧ Cod p w' ∧ w.grownBy w' (some p)

theorem spoilt_empty (p : Nat) (w : World) (h : Cod p w) :
    Calls Try.prog 18 #[.pointer (some ⟨p, 0, none⟩), .string ⟨#[]⟩] w (Spoilt p 0 w) := by
  have hc1 := cp.conv1
  go_enter Try.func18, Try.ntmps18
  go_wp2_with (go_at_call 19; refine (next_any p 256 _ h (by omega)).mono ?_; rintro e w2 ⟨r, rfl, hr0, hr1, hr2, hC2, hg2⟩)
  go_ret
  exact ⟨_, rfl, by rw [strOfNums_size]; simp, hC2.alloc _, grownBy_alloc hg2 _⟩

theorem spoilt_full (p : Nat) (s : ByteArray) (w : World) (h : Cod p w) (hs : 0 < s.size) (hs2 : s.size ≤ 900000) :
    Calls Try.prog 18 #[.pointer (some ⟨p, 0, none⟩), .string s] w (Spoilt p s.size w) := by
  have hc1 := cp.conv1
  go_enter Try.func18, Try.ntmps18
  go_wp2_with fail
  refine (next_any p s.size _ h (by omega)).mono ?_
  rintro e w2 ⟨k0, rfl, hr0, hr1, _, hC2, hg2⟩
  have hk := hr1 (by omega)
  obtain ⟨k, rfl⟩ := Int.eq_ofNat_of_zero_le hr0
  clear hr1
  go_wp2_with fail
  refine (next_any p 4 _ hC2 (by omega)).mono ?_
  rintro e w3 ⟨m, rfl, hm0, hm1, _, hC3, hg3⟩
  have G3 := grownBy_trans hg2 hg3
  have q0 : (0 : Int) ≤ (k : Int) + 1 := by omega
  have q1 : (k : Int) + 1 ≤ s.size := by omega
  have q2 : (k : Int) ≤ s.size := by omega
  have q3 : (k : Int) < s.size := by omega
  have q4 : IntKind.i64.wrap ((k : Int) + 1) = (k : Int) + 1 := IntWalk.i64_in _ ⟨by omega, by omega⟩
  have q5 : ((k : Int) + 1).toNat = k + 1 := by omega
  by_cases h0 : m = 0
  · subst h0
    have s1 : ∀ W : World, (Op.stringOp .add (s.extract 0 k) (s.extract (k + 1) s.size)).run Try.prog W = .ok (.string (s.extract 0 k ++ s.extract (k + 1) s.size)) W := fun W =>
      run_string_add_sum W _ _ (by rw [ByteArray.size_extract, ByteArray.size_extract]; omega)
    go_wp2_with fail
    go_quiet (fail)
    go_wp2
    go_ret
    exact ⟨_, rfl, by rw [ByteArray.size_append, ByteArray.size_extract, ByteArray.size_extract]; omega, hC3.drewN _, grownBy_trans G3 (grownBy_drewN _ _ _)⟩
  · by_cases h1 : m = 1
    · subst h1
      have s1 : ∀ (x : Int) (W : World), (Op.stringOp .add s (strOfNums [x])).run Try.prog W = .ok (.string (s ++ strOfNums [x])) W := fun x W =>
        run_string_add_sum W _ _ (by rw [strOfNums_size]; simp; omega)
      go_wp2_with (go_at_call 19; refine (next_any p 256 _ hC3 (by omega)).mono ?_; rintro e w4 ⟨r, rfl, hr0, hr1, hr2, hC4, hg4⟩)
      go_ret
      exact ⟨_, rfl, by rw [ByteArray.size_append, strOfNums_size]; simp, hC4.alloc _, grownBy_alloc (grownBy_trans G3 hg4) _⟩
    · have hm0 : (m == 0) = false := by simpa using h0
      have hm1 : (m == 1) = false := by simpa using h1
      have hc1d := ch.conv1d
      have hc1d2 : ∀ (W : World) (x : Int), (convert 22 9 (.slice (some ⟨W.heap.size, 0, none⟩) 1 1)).run Try.prog (W.drew.alloc (.cells #[.int .u8 x] 5)) = .ok (.string (strOfNums [x])) (W.drew.alloc (.cells #[.int .u8 x] 5)) := fun W x => cp.conv1 W.drew x
      have s1 : ∀ (x : Int) (W : World), (Op.stringOp .add (s.extract 0 k) (strOfNums [x])).run Try.prog W = .ok (.string (s.extract 0 k ++ strOfNums [x])) W := fun x W =>
        run_string_add_sum W _ _ (by rw [ByteArray.size_extract, strOfNums_size]; simp; omega)
      have s2 : ∀ (x : Int) (W : World), (Op.stringOp .add (s.extract 0 k ++ strOfNums [x]) (s.extract (k + 1) s.size)).run Try.prog W = .ok (.string (ch.hurt s k x)) W := fun x W =>
        run_string_add_sum W _ _ (by rw [ByteArray.size_append, ByteArray.size_extract, ByteArray.size_extract, strOfNums_size]; simp; omega)
      have HC3 := Lib.hid hC3
      clear hC3
      go_wp2_with fail
      go_region_with (go_at_call 19; (with_reducible refine (next_any p 255 _ (by exact HC3.out.drew) (by omega)).mono ?_); rintro e w4 ⟨r, rfl, hr0, hr1, hr2, hC4, hg4⟩)
      all_goals
        go_wp2
        go_ret
        exact ⟨_, rfl, by unfold ch.hurt; rw [ByteArray.size_append, ByteArray.size_append, ByteArray.size_extract, ByteArray.size_extract, strOfNums_size]; simp; omega, by first | exact (hC4.alloc _) | exact (hC4.drew.alloc _) | exact (hC4.alloc _).drew, grownBy_alloc (grownBy_trans (grownBy_drew G3) hg4) _⟩
def TextR (p : Nat) (w : World) (e : Ending) (w' : World) : Prop := ∃ x : ByteArray, e = .returned (.string x) ∧ Cod p w' ∧ Since p w w'
theorem spoilt_any (p : Nat) (s : ByteArray) (w : World) (h : Cod p w) (hs : s.size ≤ 900000) :
    Calls Try.prog 18 #[.pointer (some ⟨p, 0, none⟩), .string s] w (TextR p w) := by
  by_cases h0 : 0 < s.size
  · exact (spoilt_full p s w h h0 hs).mono fun e w' ⟨r, he, _, hC, hg⟩ => ⟨r, he, hC, hg⟩
  · obtain rfl : s = ⟨#[]⟩ := by
      apply ByteArray.ext
      exact Array.eq_empty_of_size_eq_zero (show s.data.size = 0 by show s.size = 0; omega)
    exact (spoilt_empty p w h).mono fun e w' ⟨r, he, _, hC, hg⟩ => ⟨r, he, hC, hg⟩
end Go.Proofs.Ytiojpfljnbdonaa.cy
