/- What Frame and Unframe of layer 1 return, those of the program and those of the reference. -/
import Derived.Test.YtmlclccfmlcabaaDoorCh
namespace Go.Proofs.YtmlclccfmlcabaaDoor.cu
open Go.ChangeShapes Go.WideShapes Go.ChangeAt Go.RowKit Go.Proofs.YtmlclccfmlcabaaDoor.cm Go.Proofs.YtmlclccfmlcabaaDoor.cw Go.Proofs.YtmlclccfmlcabaaDoor.cp Go.Proofs.YtmlclccfmlcabaaDoor.cg Go.Proofs.YtmlclccfmlcabaaDoor.ch

/-- The length of a payload and the payload. -/
def lenS (p : ByteArray) : ByteArray := putS ⟨#[]⟩ (p.size : Int) 4 ++ p
def frameS (p : ByteArray) : ByteArray := putS (lenS p) (crcN (lenS p) : Nat) 4
theorem lenS_size (p : ByteArray) : (lenS p).size = 4 + p.size := by
  unfold lenS
  rw [ByteArray.size_append, putS_size]
  show 0 + 4 + p.size = _
  omega

theorem put_4 (s : ByteArray) (n : Int) (w : World) (hs : s.size ≤ 1099511627776) :
    Calls Tryd.prog 27 #[.string s, .int .i64 n, .int .i64 4] w fun e w' => e = .returned (.string (putS s n 4)) ∧ Below w.heap.size w w' := put_yes s n 4 w hs (by decide) (by decide)
theorem frame_yes (p : ByteArray) (w : World) (hw : TabOk w) (h : p.size ≤ 8392) :
    Calls Tryd.prog 17 #[.string p] w fun e w' => e = .returned (.string (frameS p)) ∧ Below w.heap.size w w' := by
  have hz := tab_size hw
  have hcat : (putS ⟨#[]⟩ (p.size : Int) 4).size + p.size ≤ 9223372036854775807 := by
    have := lenS_size p
    unfold lenS at this
    rw [ByteArray.size_append] at this
    omega
  have hl : (putS ⟨#[]⟩ (p.size : Int) 4 ++ p).size ≤ 1099511627776 := by
    have := lenS_size p
    unfold lenS at this
    omega
  have hc := crcN_lt (putS ⟨#[]⟩ (p.size : Int) 4 ++ p)
  go_enter Tryd.func17, Tryd.ntmps17
  go_wp2_with (first
    | (go_at_call 27; (with_reducible refine (put_4 ⟨#[]⟩ _ _ (by decide)).mono ?_); rintro e w1 ⟨rfl, hb1⟩)
    | (go_at_call 28; refine (sum_n _ _ hl (tab_below hw (by assumption) hz)).mono ?_; rintro e w2 ⟨rfl, rfl⟩)
    | (go_at_call 27; refine (put_4 _ _ _ hl).mono ?_; rintro e w2 ⟨rfl, hb2⟩))
  go_ret
  exact ⟨rfl, hb1.trans (hb2.mono hb1.size)⟩
theorem frame_no (p : ByteArray) (w : World) (h : 8392 < p.size) :
    Calls Tryd.prog 17 #[.string p] w fun e w' => e = .returned (.string ⟨#[]⟩) ∧ Below w.heap.size w w' := by
  go_enter Tryd.func17, Tryd.ntmps17
  go_wp2
  go_ret
  exact ⟨rfl, Below.refl _ _⟩
/-- What Frame and Unframe return, for whatever comes in. -/
def frameV (p : ByteArray) : ByteArray := if p.size ≤ 8392 then frameS p else ⟨#[]⟩
def unf (s : ByteArray) (x : Int) : ByteArray × Int × Int :=
  if x < 0 ∨ (s.size : Int) < x then (⟨#[]⟩, 0, 1)
  else if s.size < x.toNat + 4 then (⟨#[]⟩, 0, 5)
  else if 8392 < uget s x.toNat 4 then (⟨#[]⟩, 0, 2)
  else if s.size < x.toNat + 8 + uget s x.toNat 4 then (⟨#[]⟩, 0, 5)
  else if uget s (x.toNat + 4 + uget s x.toNat 4) 4 ≠ crcN (s.extract x.toNat (x.toNat + 4 + uget s x.toNat 4)) then (⟨#[]⟩, 0, 3)
  else (s.extract (x.toNat + 4) (x.toNat + 4 + uget s x.toNat 4), (x.toNat + 8 + uget s x.toNat 4 : Nat), 0)
def unfT (s : ByteArray) (x : Int) : Value := .tuple #[.string (unf s x).1, .int .i64 (unf s x).2.1, .int .i64 (unf s x).2.2]

theorem frame_any (p : ByteArray) (w : World) (hw : TabOk w) : Calls Tryd.prog 17 #[.string p] w fun e w' => e = .returned (.string (frameV p)) ∧ Below w.heap.size w w' := by
  unfold frameV
  split
  · exact frame_yes p w hw ‹_›
  · exact frame_no p w (by omega)
theorem unframe_of {s : ByteArray} {f : FuncId} {x : Int} {w : World}
    (h1 : (x < 0 ∨ (s.size : Int) < x) → Calls Tryd.prog f #[.string s, .int .i64 x] w fun e w' => e = .returned (.tuple #[.string ⟨#[]⟩, .int .i64 0, .int .i64 1]) ∧ w = w')
    (h2 : 0 ≤ x → x ≤ s.size → (s.size : Int) < x + 4 → Calls Tryd.prog f #[.string s, .int .i64 x] w fun e w' => e = .returned (.tuple #[.string ⟨#[]⟩, .int .i64 0, .int .i64 5]) ∧ w = w')
    (h3 : ∀ a : Nat, a + 4 ≤ s.size → 8392 < uget s a 4 → Calls Tryd.prog f #[.string s, .int .i64 (a : Int)] w fun e w' => e = .returned (.tuple #[.string ⟨#[]⟩, .int .i64 0, .int .i64 2]) ∧ w = w')
    (h4 : ∀ a : Nat, a + 4 ≤ s.size → uget s a 4 ≤ 8392 → s.size < a + 8 + uget s a 4 → Calls Tryd.prog f #[.string s, .int .i64 (a : Int)] w fun e w' => e = .returned (.tuple #[.string ⟨#[]⟩, .int .i64 0, .int .i64 5]) ∧ w = w')
    (h5 : ∀ a : Nat, a + 8 + uget s a 4 ≤ s.size → uget s a 4 ≤ 8392 → uget s (a + 4 + uget s a 4) 4 ≠ crcN (s.extract a (a + 4 + uget s a 4)) → Calls Tryd.prog f #[.string s, .int .i64 (a : Int)] w fun e w' => e = .returned (.tuple #[.string ⟨#[]⟩, .int .i64 0, .int .i64 3]) ∧ w = w')
    (h6 : ∀ a : Nat, a + 8 + uget s a 4 ≤ s.size → uget s a 4 ≤ 8392 → uget s (a + 4 + uget s a 4) 4 = crcN (s.extract a (a + 4 + uget s a 4)) → Calls Tryd.prog f #[.string s, .int .i64 (a : Int)] w fun e w' => e = .returned (.tuple #[.string (s.extract (a + 4) (a + 4 + uget s a 4)), .int .i64 (a + 8 + uget s a 4 : Nat), .int .i64 0]) ∧ w = w') :
    Calls Tryd.prog f #[.string s, .int .i64 x] w fun e w' => e = .returned (unfT s x) ∧ w = w' := by
  unfold unfT unf
  by_cases c1 : x < 0 ∨ (s.size : Int) < x
  · rw [if_pos c1]; exact h1 c1
  · rw [if_neg c1]
    obtain ⟨a, rfl⟩ := Int.eq_ofNat_of_zero_le (show 0 ≤ x by omega)
    rw [Int.toNat_natCast]
    by_cases c2 : s.size < a + 4
    · rw [if_pos c2]; exact h2 (by omega) (by omega) (by omega)
    · rw [if_neg c2]
      by_cases c3 : 8392 < uget s a 4
      · rw [if_pos c3]; exact h3 a (by omega) c3
      · rw [if_neg c3]
        by_cases c4 : s.size < a + 8 + uget s a 4
        · rw [if_pos c4]; exact h4 a (by omega) (by omega) c4
        · rw [if_neg c4]
          by_cases c5 : uget s (a + 4 + uget s a 4) 4 ≠ crcN (s.extract a (a + 4 + uget s a 4))
          · rw [if_pos c5]; exact h5 a (by omega) (by omega) c5
          · rw [if_neg c5]; exact h6 a (by omega) (by omega) (by simpa using c5)
end Go.Proofs.YtmlclccfmlcabaaDoor.cu
