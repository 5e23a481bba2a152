/- The bytes of a page, as the program writes them: its builder. -/
import Derived.Test.YtkcgcddpgfcgiaaDoorDe
import Derived.Test.YtkcgcddpgfcgiaaDoorRc
namespace Go.Proofs.YtkcgcddpgfcgiaaDoor.df
open Go.ChangeShapes Go.WideShapes Go.ChangeAt Go.RowKit Go.Lib Go.Proofs.YtkcgcddpgfcgiaaDoor.cm Go.Proofs.YtkcgcddpgfcgiaaDoor.cw Go.Proofs.YtkcgcddpgfcgiaaDoor.cp Go.Proofs.YtkcgcddpgfcgiaaDoor.cg Go.Proofs.YtkcgcddpgfcgiaaDoor.ch Go.Proofs.YtkcgcddpgfcgiaaDoor.ra Go.Proofs.YtkcgcddpgfcgiaaDoor.rb Go.Proofs.YtkcgcddpgfcgiaaDoor.rc Go.Proofs.YtkcgcddpgfcgiaaDoor.da Go.Proofs.YtkcgcddpgfcgiaaDoor.db Go.Proofs.YtkcgcddpgfcgiaaDoor.dc Go.Proofs.YtkcgcddpgfcgiaaDoor.dd Go.Proofs.YtkcgcddpgfcgiaaDoor.de

abbrev Bld (B : Nat) (v : Value) (l : ByteArray) (w : World) : Prop := BytesAt 5 B v l w
/-- The builder in block B has been written: it holds l now. -/
def Wrote (B : Nat) (v : Value) (l : ByteArray) (w : World) (e : Ending) (w' : World) : Prop := e = .returned (.tuple #[]) ∧ ∃ v', Bld B v' l w' ∧ Moved B v v' w w'
theorem number_any (B : Nat) (v : Value) (l : ByteArray) (n : Int) (k : Nat) (w : World) (h : Bld B v l w) (h1 : 1 ≤ k) (h8 : k ≤ 8) (hl : l.size ≤ 1000000) :
    Calls Tryd.prog 45 #[.pointer (some ⟨B, 0, none⟩), .int .i64 n, .int .i64 (k : Int)] w (Wrote B v (putS l n k) w) := by
  obtain ⟨i, hi, hz, hsz, hby⟩ := info_parts info5
  have hcell := h.cell
  have hfree := h.free
  have hlt := h.lt
  have H := Lib.hid h
  clear h
  go_enter Tryd.func45, Tryd.ntmps45
  go_wp2_with fail
  go_region_law (first
    | ((go_simp; go_at_call 59; (with_reducible refine (put_yes ⟨#[]⟩ n k _ (by decide) h1 h8).mono ?_); rintro e w1 ⟨rfl, hb1⟩; have hb0 := below_undrew hb1; have hc1 := (hb0.cell (p := ⟨B, 0, none⟩) hlt).trans hcell; have hf1 := (hb0.frozen (p := ⟨B, 0, none⟩) hlt).trans hfree))
    | ((refine step_append_string rfl _ _ _ _ (by rfl) (B + 1) 5 i Tryd.underlying22 Tryd.underlying9 hi hz hsz hby v l.size (strCells l) (by rfl) (putS ⟨#[]⟩ n k) (by rfl) (by first | exact own_below H.out.own hb0 | exact own_drew (own_below H.out.own hb0)) (by rw [putS_size]; show l.size + (0 + k) ≤ _; omega) (by have := hb0.size; simp; omega) ?_; intro v' w2 hown hgrow hlies; have hc2 := (grown_cellB hgrow (own_below H.out.own hb0) (by have := hb0.size; simp; omega)).1.trans hc1; have hf2 := (grown_cellB hgrow (own_below H.out.own hb0) (by have := hb0.size; simp; omega)).2.trans hf1; obtain ⟨so, cap, rfl, _⟩ := own_val hown)))
  all_goals
    go_end0
    refine ⟨rfl, _, ?_, ((Moved.of_below hb0).trans (Moved.grown hgrow hlies)).setB 0 _⟩
    have e : putS ⟨#[]⟩ n k = strOfNums (putN n k) := by unfold putS; rw [strOfNums_nil_append]
    show Bld B _ (l ++ strOfNums (putN n k)) _
    rw [← e]
    exact BytesAt.stored hown hc2 hf2

/-- How many bytes lie in the builder of block B. -/
def lenAt (B : Nat) (w : World) : Nat := match w.cell? ⟨B, 0, none⟩ with
  | some (.slice _ n _) => n
  | _ => 0
theorem lenAt_of {B : Nat} {v : Value} {l : ByteArray} {w : World} (h : Bld B v l w) : lenAt B w = l.size := by
  obtain ⟨so, cap, rfl, _⟩ := own_val h.own
  unfold lenAt
  rw [h.cell]
theorem zeroS_zero : zeroS 0 = ⟨#[]⟩ := by unfold zeroS strOfNums; rfl
theorem zeroS_succ (j : Nat) : zeroS (j + 1) = zeroS j ++ zeroS 1 := by
  apply ByteArray.ext
  unfold zeroS
  simp [strOfNums, ByteArray.data_append, List.replicate_succ']
  exact Array.ext' (by simp)
theorem fill_any (B : Nat) (v : Value) (l : ByteArray) (m : Nat) (w : World) (h : Bld B v l w) (hm : m ≤ 100000) :
    Calls Tryd.prog 48 #[.pointer (some ⟨B, 0, none⟩), .int .i64 (m : Int)] w (Wrote B v (l ++ zeroS (m - l.size)) w) := by
  obtain ⟨i, hi, hz, hsz, hby⟩ := info_parts info5
  have H := Lib.hid h
  go_enter Tryd.func48, Tryd.ntmps48
  go_wp2_with fail
  go_loopw [] (fun wr => ∃ (j : Nat) (u : Value), l.size + j ≤ max m l.size ∧ Bld B u (l ++ zeroS j) wr ∧ Moved B v u w wr) (fun wr => m - lenAt B wr)
  case atStart => exact ⟨0, v, by omega, by rw [zeroS_zero, append_nil]; exact h, Moved.refl _ _ _⟩
  case round =>
    obtain ⟨j, u, hj, hb, hv⟩ := hrel
    obtain ⟨n, hn⟩ : ∃ n : Nat, n = l.size + j := ⟨_, rfl⟩
    have hs' : (l ++ zeroS j).size = n := by rw [ByteArray.size_append, zeroS_size, hn]
    obtain ⟨so, cap, rfl, hcap⟩ := own_val hb.own
    have hcell := hb.cell
    have hfree := hb.free
    have hown := hb.own
    have hlt := hb.lt
    have hmu := lenAt_of hb
    rw [hs'] at hcell hown hmu hv
    have HB := Lib.hid hb
    have HV := Lib.hid hv
    have HO := Lib.hid hown
    have HM := Lib.hid hmu
    have HJ := Lib.hid hj
    have HS := Lib.hid hs'
    have HN := Lib.hid hn
    clear hb hv hown hmu H h hj hs' hn hcap
    by_cases hjm : n < m
    · go_wp2_with (at_builtin; refine wpList_append_own_at _ rfl _ _ 22 rfl (B + 1) 5 i (.int .u8 0) 1 1 Tryd.underlying22 hi hz hsz hby rfl (by decide) _ n (strCells (l ++ zeroS j)) rfl (own_below HO.out ((Below.refl _ _).alloc (Nat.le_refl _) _)) ⟨wr.heap.size, 0, none⟩ 1 1 [.int .u8 0] rfl rfl (World.news_of_block (cs := #[.int .u8 0]) (t := 5) (fr := (0, 0)) (heap_alloc_new wr _)) (by simp [Value.oneCell']) (by unfold maxLen; omega) (by omega) (by simp; omega) ?_; intro v' w2 hown hgrow _ hlies; have hcc := (grown_cellB hgrow (own_below HO.out ((Below.refl _ _).alloc (Nat.le_refl _) _)) (by simp; omega)); obtain ⟨so', cap', rfl, hcap'⟩ := own_val hown; have hc2 : w2.cell? ⟨B, 0, none⟩ = some (.slice so n cap) := hcc.1.trans (((Below.refl _ _).alloc (Nat.le_refl _) _).cell (p := ⟨B, 0, none⟩) hlt |>.trans hcell); have hf2 : w2.frozen? ⟨B, 0, none⟩ = false := hcc.2.trans (((Below.refl _ _).alloc (Nat.le_refl _) _).frozen (p := ⟨B, 0, none⟩) hlt |>.trans hfree); clear hcc; have HOW := Lib.hid hown; have HG := Lib.hid hgrow; have HL := Lib.hid hlies; clear hown hgrow hlies hcap')
      have hnew : Bld B (.slice so' (n + 1) cap') (l ++ zeroS (j + 1)) (w2.setCell ⟨B, 0, none⟩ (.slice so' (n + 1) cap')) := by
        rw [zeroS_succ, ← append_assoc]
        exact BytesAt.stored (l := l ++ zeroS j) (r := zeroS 1) (by rw [HS.out]; exact HOW.out) hc2 hf2
      have hle := lenAt_of hnew
      go_roundw
      case rel =>
        have := HJ.out
        have := HN.out
        exact ⟨j + 1, _, by omega, hnew, (HV.out.trans ((Moved.of_below ((Below.refl _ _).alloc (Nat.le_refl _) _)).trans (Moved.grown HG.out HL.out))).setB 0 _⟩
      case measure =>
        rw [hle, HM.out, ByteArray.size_append, zeroS_size]
        have := HN.out
        omega
    · go_wp2
      go_end0
      have h1 := HN.out
      have h2 := HJ.out
      refine ⟨rfl, _, ?_, HV.out⟩
      rw [show m - l.size = j from by omega]
      have := HB.out
      rwa [HS.out] at this

theorem number_is (B : Nat) (v : Value) (l : ByteArray) (n m x : Int) (k : Nat) (hn : n = m) (hx : x = k) (w : World) (h : Bld B v l w) (h1 : 1 ≤ k) (h8 : k ≤ 8) (hl : l.size ≤ 1000000) :
    Calls Tryd.prog 45 #[.pointer (some ⟨B, 0, none⟩), .int .i64 n, .int .i64 x] w (Wrote B v (putS l m k) w) := by
  subst hn hx
  exact number_any B v l n k w h h1 h8 hl
theorem fill_is (B : Nat) (v : Value) (l : ByteArray) (x : Int) (m : Nat) (hx : x = m) (w : World) (h : Bld B v l w) (hm : m ≤ 100000) :
    Calls Tryd.prog 48 #[.pointer (some ⟨B, 0, none⟩), .int .i64 x] w (Wrote B v (l ++ zeroS (m - l.size)) w) := by
  subst hx
  exact fill_any B v l m w h hm
theorem cell_join (l : ByteArray) (c : CellM) (h : c.data.size ≤ 12) : (putS l (countOf c : Nat) 1 ++ c.data) ++ zeroS (l.size + 13 - (putS l (countOf c : Nat) 1 ++ c.data).size) = l ++ cellS c := by
  rw [ByteArray.size_append, putS_size, show l.size + 13 - (l.size + 1 + c.data.size) = 12 - c.data.size from by omega]
  unfold cellS putS
  rw [append_assoc, append_assoc]
set_option maxHeartbeats 1000000 in
theorem cell_any (B : Nat) (v : Value) (l : ByteArray) (c : CellM) (w : World) (h : Bld B v l w) (hd : c.data.size ≤ 12) (hl : l.size ≤ 10000) :
    Calls Tryd.prog 47 #[.pointer (some ⟨B, 0, none⟩), .agg #[.bool c.set, .string c.data]] w (Wrote B v (l ++ cellS c) w) := by
  obtain ⟨i, hi, hz, hsz, hby⟩ := info_parts info5
  obtain ⟨b, d⟩ := c
  simp only at hd
  cases b
  · skip
    have hlt := h.lt
    have B0 : Below w.heap.size w (w.alloc (.cells #[.bool false, .string d] 24)) := (Below.refl _ _).alloc (Nat.le_refl _) _
    have hR := RowAt.newA #[.bool false, .string d] w 24
    obtain ⟨so, cap, rfl, hcap⟩ := own_val h.own
    have hcell := h.cell
    have hne : (Value.slice so l.size cap).ownBlock ≠ some w.heap.size := fun e => by have := (own_ge h.own e).2; omega
    have H := Lib.hid (h.keep B0)
    have HR := Lib.hid hR
    have HN := Lib.hid hne
    have HC := Lib.hid (count_unset (c := ⟨false, d⟩) rfl)
    clear h hR hne hcap B0
    go_enter Tryd.func47, Tryd.ntmps47
    go_wp2_with (go_at_call 45; (with_reducible refine (number_is B _ l _ _ _ 1 HC.out (by decide) _ H.out (by decide) (by decide) (by omega)).mono ?_); rintro e w1 ⟨rfl, v1, hb1, hm1⟩)
    have hR1 := hm1.keep HR.out (by omega) HN.out
    have hs1 := hR1.cells 1 _ rfl
    have hc1 := hb1.cell
    have hf1 := hb1.free
    have hlt1 := hb1.lt
    have hps : (putS l (countOf ⟨false, d⟩ : Nat) 1).size = l.size + 1 := putS_size _ _ _
    obtain ⟨so1, cap1, rfl, hcap1⟩ := own_val hb1.own
    have H1 := Lib.hid hb1
    have HM1 := Lib.hid hm1
    have HPS := Lib.hid hps
    clear hb1 hm1 hR1 hps hcap1
    go_region_law ((refine step_append_string rfl _ _ _ _ (by rfl) (B + 1) 5 i Tryd.underlying22 Tryd.underlying9 hi hz hsz hby (.slice so1 (putS l (countOf ⟨false, d⟩ : Nat) 1).size cap1) (putS l (countOf ⟨false, d⟩ : Nat) 1).size (strCells (putS l (countOf ⟨false, d⟩ : Nat) 1)) (by rfl) d (by rfl) (by exact own_drew H1.out.own) (by rw [HPS.out]; omega) (by simp; omega) ?_; intro v' w2 hown hgrow hlies; have hc2 := (grown_cellB hgrow (own_drew H1.out.own) hlt1).1.trans hc1; have hf2 := (grown_cellB hgrow (own_drew H1.out.own) hlt1).2.trans hf1; obtain ⟨so2, cap2, rfl, _⟩ := own_val hown))
    all_goals
      have hst := BytesAt.stored hown hc2 hf2
      have HST := Lib.hid hst
      have HMV := Lib.hid ((HM1.out.drew.trans (Moved.grown hgrow hlies)).setB 0 (.slice so2 ((putS l (countOf ⟨false, d⟩ : Nat) 1).size + d.size) cap2))
      clear hst hown hgrow hlies hc2 hf2
      go_wp2_with (go_at_call 48; (with_reducible refine (fill_is B _ _ _ (l.size + 13) (by omega) _ HST.out (by omega)).mono ?_); rintro e w3 ⟨rfl, v3, hb3, hm3⟩)
      go_end0
      refine ⟨rfl, v3, ?_, ((Moved.of_below ((Below.refl _ _).alloc (Nat.le_refl _) _)).trans HMV.out).trans hm3⟩
      rw [cell_join l ⟨false, d⟩ hd] at hb3
      exact hb3
  · skip
    have hlt := h.lt
    have B0 : Below w.heap.size w (w.alloc (.cells #[.bool true, .string d] 24)) := (Below.refl _ _).alloc (Nat.le_refl _) _
    have hR := RowAt.newA #[.bool true, .string d] w 24
    obtain ⟨so, cap, rfl, hcap⟩ := own_val h.own
    have hcell := h.cell
    have hne : (Value.slice so l.size cap).ownBlock ≠ some w.heap.size := fun e => by have := (own_ge h.own e).2; omega
    have H := Lib.hid (h.keep B0)
    have HR := Lib.hid hR
    have HN := Lib.hid hne
    have HC := Lib.hid (count_set (c := ⟨true, d⟩) rfl)
    clear h hR hne hcap B0
    go_enter Tryd.func47, Tryd.ntmps47
    go_wp2_with (go_at_call 45; (with_reducible refine (number_is B _ l _ _ _ 1 HC.out (by decide) _ H.out (by decide) (by decide) (by omega)).mono ?_); rintro e w1 ⟨rfl, v1, hb1, hm1⟩)
    have hR1 := hm1.keep HR.out (by omega) HN.out
    have hs1 := hR1.cells 1 _ rfl
    have hc1 := hb1.cell
    have hf1 := hb1.free
    have hlt1 := hb1.lt
    have hps : (putS l (countOf ⟨true, d⟩ : Nat) 1).size = l.size + 1 := putS_size _ _ _
    obtain ⟨so1, cap1, rfl, hcap1⟩ := own_val hb1.own
    have H1 := Lib.hid hb1
    have HM1 := Lib.hid hm1
    have HPS := Lib.hid hps
    clear hb1 hm1 hR1 hps hcap1
    go_region_law ((refine step_append_string rfl _ _ _ _ (by rfl) (B + 1) 5 i Tryd.underlying22 Tryd.underlying9 hi hz hsz hby (.slice so1 (putS l (countOf ⟨true, d⟩ : Nat) 1).size cap1) (putS l (countOf ⟨true, d⟩ : Nat) 1).size (strCells (putS l (countOf ⟨true, d⟩ : Nat) 1)) (by rfl) d (by rfl) (by exact own_drew H1.out.own) (by rw [HPS.out]; omega) (by simp; omega) ?_; intro v' w2 hown hgrow hlies; have hc2 := (grown_cellB hgrow (own_drew H1.out.own) hlt1).1.trans hc1; have hf2 := (grown_cellB hgrow (own_drew H1.out.own) hlt1).2.trans hf1; obtain ⟨so2, cap2, rfl, _⟩ := own_val hown))
    all_goals
      have hst := BytesAt.stored hown hc2 hf2
      have HST := Lib.hid hst
      have HMV := Lib.hid ((HM1.out.drew.trans (Moved.grown hgrow hlies)).setB 0 (.slice so2 ((putS l (countOf ⟨true, d⟩ : Nat) 1).size + d.size) cap2))
      clear hst hown hgrow hlies hc2 hf2
      go_wp2_with (go_at_call 48; (with_reducible refine (fill_is B _ _ _ (l.size + 13) (by omega) _ HST.out (by omega)).mono ?_); rintro e w3 ⟨rfl, v3, hb3, hm3⟩)
      go_end0
      refine ⟨rfl, v3, ?_, ((Moved.of_below ((Below.refl _ _).alloc (Nat.le_refl _) _)).trans HMV.out).trans hm3⟩
      rw [cell_join l ⟨true, d⟩ hd] at hb3
      exact hb3
end Go.Proofs.YtkcgcddpgfcgiaaDoor.df
