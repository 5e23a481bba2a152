/- The bytes of a page: what the reference's Encode returns. -/
import Derived.Test.YtkcgcddpgfcgiaaDoorDd
import Derived.Deep.RegionWith
namespace Go.Proofs.YtkcgcddpgfcgiaaDoor.de
open Go.ChangeShapes Go.WideShapes Go.ChangeAt Go.RowKit Go.Proofs.YtkcgcddpgfcgiaaDoor.cm Go.Proofs.YtkcgcddpgfcgiaaDoor.cw Go.Proofs.YtkcgcddpgfcgiaaDoor.cp Go.Proofs.YtkcgcddpgfcgiaaDoor.cg Go.Proofs.YtkcgcddpgfcgiaaDoor.ch Go.Proofs.YtkcgcddpgfcgiaaDoor.ra Go.Proofs.YtkcgcddpgfcgiaaDoor.rb Go.Proofs.YtkcgcddpgfcgiaaDoor.da Go.Proofs.YtkcgcddpgfcgiaaDoor.db Go.Proofs.YtkcgcddpgfcgiaaDoor.dc Go.Proofs.YtkcgcddpgfcgiaaDoor.dd

/-- The number of bytes of a cell, as its first byte says it. -/
def countOf (c : CellM) : Nat := if c.set = true then c.data.size else 255
def cellS (c : CellM) : ByteArray := strOfNums (putN (countOf c : Nat) 1) ++ (c.data ++ zeroS (12 - c.data.size))
def cellsS (f : Nat → CellM) : Nat → ByteArray
  | 0 => ⟨#[]⟩
  | n + 1 => cellsS f n ++ cellS (f n)
def headS (p : Pg) : ByteArray := putS (putS ⟨#[]⟩ p.lsn 8) p.id 4
def mainS (p : Pg) (n : Nat) : ByteArray := headS p ++ cellsS p.cell n
def bodyS (p : Pg) : ByteArray := mainS p 16 ++ zeroS 24
def encS (p : Pg) : ByteArray := putS (putS (bodyS p) (crcN (bodyS p) : Nat) 4) p.lsn 8
def encA (p : Pg) : ByteArray := if encE p = 0 then encS p else ⟨#[]⟩
theorem strOfNums_nil_append (s : ByteArray) : (⟨#[]⟩ : ByteArray) ++ s = s := by apply ByteArray.ext; simp [ByteArray.data_append]
theorem append_nil (s : ByteArray) : s ++ (⟨#[]⟩ : ByteArray) = s := by apply ByteArray.ext; simp [ByteArray.data_append]
theorem append_assoc (a b c : ByteArray) : a ++ b ++ c = a ++ (b ++ c) := by apply ByteArray.ext; simp [ByteArray.data_append]
theorem headS_size (p : Pg) : (headS p).size = 12 := by
  unfold headS
  rw [putS_size, putS_size]; rfl
theorem cellS_size {c : CellM} (h : c.data.size ≤ 12) : (cellS c).size = 13 := by
  unfold cellS
  rw [ByteArray.size_append, ByteArray.size_append, strOfNums_size, putN_length, zeroS_size]
  omega
theorem cellsS_size {f : Nat → CellM} : ∀ n, (∀ i, i < n → (f i).data.size ≤ 12) → (cellsS f n).size = 13 * n
  | 0, _ => rfl
  | n + 1, h => by
    rw [cellsS, ByteArray.size_append, cellsS_size n (fun i hi => h i (by omega)), cellS_size (h n (by omega))]
    omega
def Small (p : Pg) : Prop := ∀ i, i < 16 → (p.cell i).data.size ≤ 12
theorem mainS_size {p : Pg} (h : Small p) (n : Nat) (hn : n ≤ 16) : (mainS p n).size = 12 + 13 * n := by
  unfold mainS
  rw [ByteArray.size_append, headS_size, cellsS_size n (fun i hi => h i (by omega))]
theorem bodyS_size {p : Pg} (h : Small p) : (bodyS p).size = 244 := by
  unfold bodyS
  rw [ByteArray.size_append, mainS_size h 16 (by omega), zeroS_size]
theorem encS_size {p : Pg} (h : Small p) : (encS p).size = 256 := by
  unfold encS
  rw [putS_size, putS_size, bodyS_size h]
theorem small_of {p : Pg} (h : cellsB p = true) : Small p := fun i hi => by
  have := cellsB_iff.1 h i hi
  unfold cellOkB cellB at this
  simp at this
  omega
theorem mainS_step {p : Pg} (n : Nat) : putS (mainS p n) (countOf (p.cell n) : Nat) 1 ++ ((p.cell n).data ++ zeroS (12 - (p.cell n).data.size)) = mainS p (n + 1) := by
  unfold mainS
  rw [cellsS]
  unfold cellS putS
  rw [append_assoc, append_assoc]
theorem refPut_is (s : ByteArray) (n x : Int) (k : Nat) (hx : x = k) (w : World) (hs : s.size ≤ 1099511627776) (h1 : 1 ≤ k) (h8 : k ≤ 8) :
    Calls Tryd.prog 33 #[.string s, .int .i64 n, .int .i64 x] w fun e w' => e = .returned (.string (putS s n k)) ∧ Below w.heap.size w w' := by
  subst hx
  exact refPut_yes s n k w hs h1 h8

theorem refPut_n (s : ByteArray) (n m x : Int) (k : Nat) (hm : n = m) (hx : x = k) (w : World) (hs : s.size ≤ 1099511627776) (h1 : 1 ≤ k) (h8 : k ≤ 8) :
    Calls Tryd.prog 33 #[.string s, .int .i64 n, .int .i64 x] w fun e w' => e = .returned (.string (putS s m k)) ∧ Below w.heap.size w w' := by
  subst hm
  exact refPut_is s n x k hx w hs h1 h8
theorem count_set {c : CellM} (h : c.set = true) : (c.data.size : Int) = (countOf c : Nat) := by unfold countOf; rw [if_pos h]
theorem count_unset {c : CellM} (h : c.set = false) : (255 : Int) = (countOf c : Nat) := by unfold countOf; rw [if_neg (by rw [h]; decide)]; rfl
theorem refCheck_b (p : Pg) (n : Int) (h : encE p = n) (w : World) (hc : Fits p) :
    Calls Tryd.prog 32 #[.agg p.arr] w fun e w' => e = .returned (.int .i64 n) ∧ Below w.heap.size w w' := h ▸ refCheck_any p w hc

theorem refEncode_no (p : Pg) (n : Int) (hn : encE p = n) (h0 : (n != 0) = true) (w : World) (hc : Fits p) :
    Calls Tryd.prog 12 #[.agg p.arr] w fun e w' => e = .returned (.tuple #[.string ⟨#[]⟩, .int .i64 n]) ∧ Below w.heap.size w w' := by
  have HP := Lib.hid (PgAt.new p w 27)
  have HB : Hid (Below w.heap.size w (w.alloc (.cells p.arr 27))) := Lib.hid ((Below.refl _ _).alloc (Nat.le_refl _) _)
  have HN := Lib.hid hn
  clear hn
  go_enter Tryd.func12, Tryd.ntmps12
  go_wp2_with (first
    | (refine wp_loadPage p HP.out rfl rfl rfl ?_)
    | (go_at_call 32; refine (refCheck_b p n HN.out _ hc).mono ?_; rintro e w1 ⟨rfl, hb1⟩))
  go_ret2
  exact ⟨rfl, HB.out.trans (hb1.mono (by simp))⟩
set_option maxHeartbeats 1000000 in
theorem refEncode_yes (p : Pg) (hn : encE p = 0) (hsm : Small p) (w : World) (hc : Fits p) :
    Calls Tryd.prog 12 #[.agg p.arr] w fun e w' => e = .returned (.tuple #[.string (encS p), .int .i64 0]) ∧ Below w.heap.size w w' := by
  have HP := Lib.hid (PgAt.new p w 27)
  have HB : Hid (Below w.heap.size w (w.alloc (.cells p.arr 27))) := Lib.hid ((Below.refl _ _).alloc (Nat.le_refl _) _)
  have HN := Lib.hid hn
  clear hn
  go_enter Tryd.func12, Tryd.ntmps12
  go_wp2_with (first
    | (refine wp_loadPage p HP.out rfl rfl rfl ?_)
    | (go_at_call 32; refine (refCheck_b p 0 HN.out _ hc).mono ?_; rintro e w1 ⟨rfl, hb1⟩; have HB1 := Lib.hid (HB.out.trans (hb1.mono (by simp))); have HP1 := Lib.hid (HP.out.keep hb1); have h1 := PgAt.lsnAt HP1.out)
    | (go_at_call 33; (with_reducible refine (refPut_is ⟨#[]⟩ _ _ 8 (by decide) _ (by decide) (by decide) (by decide)).mono ?_); rintro e w2 ⟨rfl, hb2⟩; have HB2 := Lib.hid (HB1.out.trans (hb2.mono HB1.out.size)); have HP2 := Lib.hid (HP1.out.keep hb2); have h0 := PgAt.idAt HP2.out)
    | (go_at_call 33; (with_reducible refine (refPut_is _ _ _ 4 (by decide) _ (by rw [putS_size]; decide) (by decide) (by decide)).mono ?_); rintro e w3 ⟨rfl, hb3⟩; have HB3 := Lib.hid (HB2.out.trans (hb3.mono HB2.out.size)); have HP3 := Lib.hid (HP2.out.keep hb3)))
  clear h0 h1
  have H0 : Hid (putS (putS ⟨#[]⟩ p.lsn 8) p.id 4 = mainS p 0) := Lib.hid (by unfold mainS; rw [cellsS, append_nil]; rfl)
  go_loopw [5, 6] (fun s i wr => ∃ j : Nat, j ≤ 16 ∧ i = .int .i64 j ∧ s = .string (mainS p j) ∧ PgAt w.heap.size p wr ∧ Below w.heap.size w wr) (fun _ i _ => 16 - (intOf i).toNat)
  case atStart => exact ⟨0, by omega, rfl, by rw [H0.out], HP3.out, HB3.out⟩
  case round =>
    obtain ⟨j, hj, rfl, rfl, hp, hb⟩ := hrel
    have HB4 := Lib.hid hb
    have HP4 := Lib.hid hp
    by_cases hlt : j < 16
    · have hz := hb.size
      have hs0 := hp.setAt hlt
      have hs1 := hp.dataAt hlt
      have hd := hsm j hlt
      have hms := mainS_size hsm j (by omega)
      have HS := Lib.hid (mainS_step (p := p) j)
      clear hb hp
      have e1 : IntKind.i64.wrap (12 - ((p.cell j).data.size : Int)) = 12 - ((p.cell j).data.size : Int) := IntWalk.i64_in _ ⟨by omega, by omega⟩
      have s1 : ∀ W : World, (Op.stringOp .add (p.cell j).data (zeroS (12 - (p.cell j).data.size))).run Tryd.prog W = .ok (.string ((p.cell j).data ++ zeroS (12 - (p.cell j).data.size))) W := fun W =>
        run_string_add_sum W _ _ (by rw [zeroS_size]; omega)
      have s2 : ∀ W : World, (Op.stringOp .add (putS (mainS p j) (countOf (p.cell j) : Nat) 1) ((p.cell j).data ++ zeroS (12 - (p.cell j).data.size))).run Tryd.prog W = .ok (.string (putS (mainS p j) (countOf (p.cell j) : Nat) 1 ++ ((p.cell j).data ++ zeroS (12 - (p.cell j).data.size)))) W := fun W =>
        run_string_add_sum W _ _ (by rw [putS_size, ByteArray.size_append, zeroS_size]; omega)
      by_cases hset : (p.cell j).set = true
      · rw [hset] at hs0
        have HC := Lib.hid (count_set hset)
        clear hset
        go_wp2_with (go_at_call 33; (with_reducible refine (refPut_n _ _ _ _ 1 HC.out (by decide) _ (by omega) (by decide) (by decide)).mono ?_); rintro e w5 ⟨rfl, hb5⟩; have hs5 := PgAt.dataAt (HP4.out.keep hb5) hlt)
        have hz5 := hb5.size
        have HB5 := Lib.hid (HB4.out.trans (hb5.mono hz))
        have HP5 := Lib.hid (HP4.out.keep hb5)
        clear hb5 hs0 hs1
        go_region_with (go_at_call 34; (with_reducible refine (zeros_is _ (12 - (p.cell j).data.size) (by omega) (by omega) _).mono ?_); rintro e w6 ⟨rfl, hb6⟩; have hs6 := PgAt.dataAt (RowAt.keep (by first | exact HP5.out | exact HP5.out.drew) hb6) hlt)
        all_goals
          have hz6 := HB5.out.size
          have HB6 : Hid (Below w.heap.size w w6) := Lib.hid (by first | exact HB5.out.trans (hb6.mono hz6) | exact HB5.out.drew.trans (hb6.mono hz6))
          have HP6 : Hid (PgAt w.heap.size p w6) := Lib.hid (by first | exact HP5.out.keep hb6 | exact HP5.out.drew.keep hb6)
          clear hb6 hs6 hs5
          go_wp2
          go_roundw
          case rel => exact ⟨j + 1, by omega, by go_num, by rw [HS.out], by first | exact HP6.out | exact HP6.out.drew, by first | exact HB6.out | exact HB6.out.drew⟩
          case measure => simp [intOf]; omega
      · rw [Bool.not_eq_true] at hset
        rw [hset] at hs0
        have HC := Lib.hid (count_unset hset)
        clear hset
        go_wp2_with (go_at_call 33; (with_reducible refine (refPut_n _ _ _ _ 1 HC.out (by decide) _ (by omega) (by decide) (by decide)).mono ?_); rintro e w5 ⟨rfl, hb5⟩; have hs5 := PgAt.dataAt (HP4.out.keep hb5) hlt)
        have hz5 := hb5.size
        have HB5 := Lib.hid (HB4.out.trans (hb5.mono hz))
        have HP5 := Lib.hid (HP4.out.keep hb5)
        clear hb5 hs0 hs1
        go_region_with (go_at_call 34; (with_reducible refine (zeros_is _ (12 - (p.cell j).data.size) (by omega) (by omega) _).mono ?_); rintro e w6 ⟨rfl, hb6⟩; have hs6 := PgAt.dataAt (RowAt.keep (by first | exact HP5.out | exact HP5.out.drew) hb6) hlt)
        all_goals
          have hz6 := HB5.out.size
          have HB6 : Hid (Below w.heap.size w w6) := Lib.hid (by first | exact HB5.out.trans (hb6.mono hz6) | exact HB5.out.drew.trans (hb6.mono hz6))
          have HP6 : Hid (PgAt w.heap.size p w6) := Lib.hid (by first | exact HP5.out.keep hb6 | exact HP5.out.drew.keep hb6)
          clear hb6 hs6 hs5
          go_wp2
          go_roundw
          case rel => exact ⟨j + 1, by omega, by go_num, by rw [HS.out], by first | exact HP6.out | exact HP6.out.drew, by first | exact HB6.out | exact HB6.out.drew⟩
          case measure => simp [intOf]; omega
    · obtain rfl : j = 16 := by omega
      have hm16 := mainS_size hsm 16 (by omega)
      have hcat : (mainS p 16).size + (zeroS 24).size ≤ 9223372036854775807 := by rw [zeroS_size]; omega
      have hbz := bodyS_size hsm
      have HE : Hid (mainS p 16 ++ zeroS 24 = bodyS p) := Lib.hid rfl
      have hcr := crcN_lt (bodyS p)
      have hl := hp.lsnAt
      clear hp hb
      go_wp2_with (first
        | (go_at_call 34; (with_reducible refine (zeros_is _ 24 (by omega) (by omega) _).mono ?_); rintro e w5 ⟨rfl, hb5⟩; have HB5 := Lib.hid (HB4.out.trans (hb5.mono HB4.out.size)); have HP5 := Lib.hid (HP4.out.keep hb5))
        | (go_at_call 35; rw [HE.out]; (with_reducible refine (refSum_n _ _ (by omega)).mono ?_); rintro e w6 ⟨rfl, rfl⟩)
        | (go_at_call 33; (with_reducible refine (refPut_is _ _ _ 4 (by decide) _ (by omega) (by decide) (by decide)).mono ?_); rintro e w7 ⟨rfl, hb7⟩; have HB7 := Lib.hid (HB5.out.trans (hb7.mono HB5.out.size)); have HP7 := Lib.hid (HP5.out.keep hb7); have h7 := PgAt.lsnAt HP7.out)
        | (go_at_call 33; (with_reducible refine (refPut_is _ _ _ 8 (by decide) _ (by rw [putS_size]; omega) (by decide) (by decide)).mono ?_); rintro e w8 ⟨rfl, hb8⟩))
      go_ret2
      exact ⟨by rfl, HB7.out.trans (hb8.mono HB7.out.size)⟩
theorem encE_val (p : Pg) : encE p = 0 ∨ (encE p != 0) = true := by
  unfold encE
  split
  · split
    · exact .inl rfl
    · exact .inr rfl
  · exact .inr rfl
theorem small_of_encE {p : Pg} (h : encE p = 0) : Small p := by
  unfold encE at h
  split at h
  · split at h
    · exact small_of ‹_›
    · cases h
  · cases h
def encT (p : Pg) : Value := .tuple #[.string (encA p), .int .i64 (encE p)]
theorem refEncode_any (p : Pg) (w : World) (hc : Fits p) :
    Calls Tryd.prog 12 #[.agg p.arr] w fun e w' => e = .returned (encT p) ∧ Below w.heap.size w w' := by
  unfold encT encA
  rcases encE_val p with h | h
  · rw [if_pos h, h]
    exact refEncode_yes p h (small_of_encE h) w hc
  · rw [if_neg (by simpa using h)]
    exact refEncode_no p _ rfl h w hc
end Go.Proofs.YtkcgcddpgfcgiaaDoor.de
