/- What the bytes of a page mean: the program's Decode. -/
import Derived.Test.YtkcgcddpgfcgiaaDoorDg
import Derived.Test.YtkcgcddpgfcgiaaDoorSr
namespace Go.Proofs.YtkcgcddpgfcgiaaDoor.dh
open Go.ChangeShapes Go.WideShapes Go.ChangeAt Go.RowKit Go.Lib Go.Proofs.YtkcgcddpgfcgiaaDoor.cm Go.Proofs.YtkcgcddpgfcgiaaDoor.cw Go.Proofs.YtkcgcddpgfcgiaaDoor.cp Go.Proofs.YtkcgcddpgfcgiaaDoor.cg Go.Proofs.YtkcgcddpgfcgiaaDoor.ch Go.Proofs.YtkcgcddpgfcgiaaDoor.ra Go.Proofs.YtkcgcddpgfcgiaaDoor.rb Go.Proofs.YtkcgcddpgfcgiaaDoor.rc Go.Proofs.YtkcgcddpgfcgiaaDoor.da Go.Proofs.YtkcgcddpgfcgiaaDoor.db Go.Proofs.YtkcgcddpgfcgiaaDoor.dc Go.Proofs.YtkcgcddpgfcgiaaDoor.dd Go.Proofs.YtkcgcddpgfcgiaaDoor.de Go.Proofs.YtkcgcddpgfcgiaaDoor.df Go.Proofs.YtkcgcddpgfcgiaaDoor.dg

theorem repeat_zero : ∀ n, (Lib.repeatL [0] n) = List.replicate n 0
  | 0 => rfl
  | n + 1 => by rw [Lib.repeatL, repeat_zero n]; rfl
theorem zeroS_list (n : Nat) : (zeroS n).data.toList = List.replicate n 0 := by
  unfold zeroS
  rw [strOfNums_data, List.map_replicate]; rfl
theorem blank_any (w : World) : Calls Tryd.prog 17 #[] w fun e w' => e = .returned (.string (zeroS 256)) ∧ Below w.heap.size w w' := by
  have hr : ∀ W : World, Calls Tryd.prog 38 #[.string ⟨#[0]⟩, .int .i64 256] W fun e w' => e = .returned (.string (zeroS 256)) ∧ Below W.heap.size W w' := fun W => by
    have := sr.strings_Repeat_main ⟨#[0]⟩ 256 W (by decide) (by decide) (by decide) (by decide)
    have e : (⟨(Lib.repeatL (⟨#[0]⟩ : ByteArray).data.toList 256).toArray⟩ : ByteArray) = zeroS 256 := by
      apply ByteArray.ext
      apply Array.ext'
      rw [zeroS_list]
      exact repeat_zero 256
    rw [e] at this
    exact this
  have HR := Lib.hid hr
  clear hr
  go_enter Tryd.func17, Tryd.ntmps17
  go_wp2_with (go_at_call 38; refine (HR.out _).mono ?_; rintro e w1 ⟨rfl, hb1⟩)
  go_ret
  exact ⟨rfl, hb1⟩
theorem number_at (s : ByteArray) (x y : Int) (a k : Nat) (hx : x = a) (hy : y = k) (w : World) (hs : s.size ≤ 1099511627776) (h1 : 1 ≤ k) (h8 : k ≤ 8) (ha : a + k ≤ s.size) :
    Calls Tryd.prog 57 #[.string s, .int .i64 x, .int .i64 y] w fun e w' => e = .returned (.int .i64 (getN s a k)) ∧ w = w' := by
  subst hx hy
  go_enter Tryd.func57, Tryd.ntmps57
  go_wp2_with (go_at_call 66; refine (get_yes s a k _ hs h1 h8 ha).mono ?_; rintro e w1 ⟨rfl, rfl⟩)
  go_ret
  exact ⟨rfl, rfl⟩
/-- The byte of a text at an index. -/
def byteN (s : ByteArray) (i : Nat) : Nat := (s.data.toList.getD i 0).toNat
theorem byteN_lt (s : ByteArray) (i : Nat) : byteN s i < 256 := (s.data.toList.getD i 0).toNat_lt
theorem getN_one (s : ByteArray) (a : Nat) : getN s a 1 = (byteN s a : Nat) := by
  rw [getN_small s a 1 (by decide), uget, uget]
  simp [byteN]
/-- The cell that thirteen bytes mean. -/
def cellR (t : ByteArray) : CellM := if byteN t 0 = 255 then noCell else ⟨true, (t.extract 1 13).extract 0 (min (byteN t 0) 12)⟩
theorem readCell_any (t : ByteArray) (w : World) (ht : t.size = 13) :
    Calls Tryd.prog 58 #[.string t] w fun e w' => e = .returned (.agg #[.bool (cellR t).set, .string (cellR t).data]) ∧ Below w.heap.size w w' := by
  have hlt := byteN_lt t 0
  have hn : ∀ W : World, Calls Tryd.prog 57 #[.string t, .int .i64 0, .int .i64 1] W fun e w' => e = .returned (.int .i64 (byteN t 0 : Nat)) ∧ W = w' := fun W => by
    have := number_at t 0 1 0 1 rfl rfl W (by omega) (by decide) (by decide) (by omega)
    rwa [getN_one] at this
  have HN := Lib.hid hn
  clear hn
  unfold cellR
  generalize byteN t 0 = n at hlt HN
  by_cases h : n = 255
  · subst h
    go_enter Tryd.func58, Tryd.ntmps58
    go_wp2_with (go_at_call 57; (with_reducible refine (HN.out _).mono ?_); rintro e w1 ⟨rfl, rfl⟩)
    exact bodyPost_ret (v := .agg #[.bool false, .string ⟨#[]⟩]) (by simp [results, Tryd.results58, go_sem]) rfl ⟨rfl, ((Below.refl _ _).alloc (Nat.le_refl _) _)⟩
  · have hd : ((n : Int) == 255) = false := by simp; omega
    rw [if_neg h]
    clear h
    go_enter Tryd.func58, Tryd.ntmps58
    go_wp2_with (go_at_call 57; (with_reducible refine (HN.out _).mono ?_); rintro e w1 ⟨rfl, rfl⟩)
    have hmn : (min (n : Int) 12).toNat = min n 12 := by omega
    exact bodyPost_ret (v := .agg #[.bool true, .string ((t.extract 1 13).extract 0 (min n 12))]) (by simp [results, Tryd.results58, go_sem, hmn]) rfl ⟨rfl, ((Below.refl _ _).alloc (Nat.le_refl _) _)⟩
/-- What is wrong with bytes before their meaning is looked at. -/
def checkE (s : ByteArray) : Int :=
  if s.size ≠ 256 then 2 else if s = zeroS 256 then 7 else if s.extract 0 8 ≠ s.extract 248 256 then 27 else if uget s 244 4 ≠ crcN (s.extract 0 244) then 3 else 0
def CheckAt (s : ByteArray) (n : Int) : Prop := ∀ w : World, TabOk w → Calls Tryd.prog 39 #[.string s] w fun e w' => e = .returned (.int .i64 n) ∧ Below w.heap.size w w'
theorem check_size (s : ByteArray) (h : s.size ≠ 256) : CheckAt s 2 := fun w hw => by
  have hd : ((s.size : Int) != 256) = true := by simp; omega
  go_enter Tryd.func39, Tryd.ntmps39
  go_wp2
  go_ret
  exact ⟨rfl, Below.refl _ _⟩
theorem check_blank (s : ByteArray) (hz : s.size = 256) (h : s = zeroS 256) : CheckAt s 7 := fun w hw => by
  have he := eqL_yes h
  clear h
  go_enter Tryd.func39, Tryd.ntmps39
  go_wp2_with (go_at_call 17; (with_reducible refine (blank_any _).mono ?_); rintro e w1 ⟨rfl, hb1⟩)
  go_ret
  exact ⟨rfl, hb1⟩
theorem check_pos (s : ByteArray) (hz : s.size = 256) (h : s ≠ zeroS 256) (hp : s.extract 0 8 ≠ s.extract 248 256) : CheckAt s 27 := fun w hw => by
  have he := eqL_no h
  have hn := eqL_no hp
  have hn2 := neL_yes hp
  have s1 := slice_to s 8 8 rfl (by omega)
  have s2 := slice_from s 248 248 256 rfl (by omega) hz
  clear h hp
  go_enter Tryd.func39, Tryd.ntmps39
  go_wp2_with (go_at_call 17; (with_reducible refine (blank_any _).mono ?_); rintro e w1 ⟨rfl, hb1⟩)
  go_quiet (fail)
  go_wp2
  go_ret
  exact ⟨rfl, hb1.drewN _⟩
theorem check_sum (s : ByteArray) (hz : s.size = 256) (h : s ≠ zeroS 256) (hp : s.extract 0 8 = s.extract 248 256) (b : Bool) (hc : decide (uget s 244 4 ≠ crcN (s.extract 0 244)) = b) : CheckAt s (if b = true then 3 else 0) := fun w hw => by
  have he := eqL_no h
  have hn := eqL_yes hp
  have hn2 := neL_no hp
  have s1 := slice_to s 8 8 rfl (by omega)
  have s2 := slice_from s 248 248 256 rfl (by omega) hz
  have s3 := slice_to s 244 244 rfl (by omega)
  have hu := uget_lt s 244 4
  have hg : getN s 244 4 = (uget s 244 4 : Nat) := getN_small s 244 4 (by decide)
  have HNUM : Hid (∀ W : World, Calls Tryd.prog 57 #[.string s, .int .i64 244, .int .i64 4] W fun e w' => e = .returned (.int .i64 (uget s 244 4 : Nat)) ∧ W = w') := Lib.hid fun W => by
    have := number_at s 244 4 244 4 rfl rfl W (by omega) (by decide) (by decide) (by omega)
    rwa [hg] at this
  have hz2 : (s.extract 0 244).size ≤ 1099511627776 := by rw [ByteArray.size_extract]; omega
  have hcr := crcN_lt (s.extract 0 244)
  have hcmp : (((uget s 244 4 : Nat) : Int) != ((crcN (s.extract 0 244) : Nat) : Int)) = b := by
    rw [← hc]
    by_cases e : uget s 244 4 = crcN (s.extract 0 244)
    · rw [eq_nat _ _ e]; simp [e]
    · rw [ne_nat _ _ e]; simp [e]
  clear h hp hg hc
  have hu4 : uget s 244 4 < 4294967296 := hu
  clear hu
  generalize uget s 244 4 = u at HNUM hcmp hu4
  go_enter Tryd.func39, Tryd.ntmps39
  go_wp2_with (go_at_call 17; (with_reducible refine (blank_any _).mono ?_); rintro e w1 ⟨rfl, hb1⟩)
  have hw1 := tab_below hw hb1 (tab_size hw)
  go_quiet (fail)
  go_wp2
  go_quiet (first
    | ((go_at_call 57; exact quiet_add_left (HNUM.out _)))
    | ((go_at_call 49; exact quiet_add_left (sum_n _ _ hz2 hw1))))
  cases b
  all_goals
    go_wp2
    go_ret
    exact ⟨rfl, hb1.drewN _⟩
theorem check_any (s : ByteArray) : CheckAt s (checkE s) := by
  unfold checkE
  by_cases h1 : s.size ≠ 256
  · rw [if_pos h1]; exact check_size s h1
  · rw [if_neg h1]
    simp only [ne_eq, Decidable.not_not] at h1
    by_cases h2 : s = zeroS 256
    · rw [if_pos h2]; exact check_blank s h1 h2
    · rw [if_neg h2]
      by_cases h3 : s.extract 0 8 ≠ s.extract 248 256
      · rw [if_pos h3]; exact check_pos s h1 h2 h3
      · rw [if_neg h3]
        simp only [ne_eq, Decidable.not_not] at h3
        have := check_sum s h1 h2 h3 _ rfl
        simpa only [decide_eq_true_eq] using this
end Go.Proofs.YtkcgcddpgfcgiaaDoor.dh
