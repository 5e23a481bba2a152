/- Draws: New, Left, Bytes; devices beside the codes. -/
import Derived.Test.YtikpchhhenonaaaLu
namespace Go.Proofs.Ytikpchhhenonaaa.lv
open Go.ChangeShapes Go.WideShapes Go.ChangeAt Go.RowKit Go.Proofs.Ytikpchhhenonaaa.cx Go.Proofs.Ytikpchhhenonaaa.ra Go.Proofs.Ytikpchhhenonaaa.la Go.Proofs.Ytikpchhhenonaaa.lb Go.Proofs.Ytikpchhhenonaaa.lc Go.Proofs.Ytikpchhhenonaaa.ld Go.Proofs.Ytikpchhhenonaaa.le Go.Proofs.Ytikpchhhenonaaa.lf Go.Proofs.Ytikpchhhenonaaa.lg Go.Proofs.Ytikpchhhenonaaa.lh Go.Proofs.Ytikpchhhenonaaa.li Go.Proofs.Ytikpchhhenonaaa.lj Go.Proofs.Ytikpchhhenonaaa.lk Go.Proofs.Ytikpchhhenonaaa.ll Go.Proofs.Ytikpchhhenonaaa.lm Go.Proofs.Ytikpchhhenonaaa.ln Go.Proofs.Ytikpchhhenonaaa.lo Go.Proofs.Ytikpchhhenonaaa.lp Go.Proofs.Ytikpchhhenonaaa.lq Go.Proofs.Ytikpchhhenonaaa.lr Go.Proofs.Ytikpchhhenonaaa.ls Go.Proofs.Ytikpchhhenonaaa.lt Go.Proofs.Ytikpchhhenonaaa.lu

theorem new_most (m : Nat) (x : Int) (hx : x = (m : Int)) (so : Option Addr) (len cap : Nat) (w : World) (h : BytesIn so len w) (hl : len ≤ 9223372036854775807) (hc : len ≤ cap) (hm : m ≤ 1000) :
    Calls Try.prog 11 #[.slice so len cap, .int .i64 x] w (NewPost w) := by
  subst hx
  by_cases h60 : m < len
  · have HB := Lib.hid (codes_new so m cap w (fun i hi => h i (by omega)) (by omega))
    clear h
    have q1 : (m : Int) < (len : Int) := by omega
    have q2 : (0 : Int) ≤ (m : Int) := by omega
    have q3 : (m : Int) ≤ (len : Int) := by omega
    go_enter Try.func11, Try.ntmps11
    go_wp2
    go_ret
    exact ⟨rfl, HB.out, (Below.refl _ _).alloc (Nat.le_refl _) _, by simp⟩
  · have HB := Lib.hid (codes_new so len cap w h (by omega))
    clear h
    have q1 : ((m : Int) < (len : Int)) = False := by simp; omega
    have q2 : decide ((m : Int) < (len : Int)) = false := by simp; omega
    go_enter Try.func11, Try.ntmps11
    go_wp2
    go_ret
    exact ⟨rfl, HB.out, (Below.refl _ _).alloc (Nat.le_refl _) _, by simp⟩
/-- Block p is a Codes of which m codes are left. -/
def CodL (p m : Nat) (w : World) : Prop := ∃ so len cap at', Codes p so len cap at' w ∧ m = len - at'
/-- What a choice gives. -/
def ChosenL (p m : Nat) (n : Int) (w : World) (e : Ending) (w' : World) : Prop :=
  ∃ r : Int, e = .returned (.int .i64 r) ∧ 0 ≤ r ∧ (1 ≤ n → r < n) ∧ (n < 1 → r = 0) ∧ (∃ m', m' ≤ m ∧ (1 ≤ n → 0 < m → m' < m) ∧ CodL p m' w') ∧ w.grownBy w' (some p)
theorem nextL_end (p : Nat) (n : Int) (so : Option Addr) (len cap : Nat) (w : World) (h : Codes p so len cap len w) :
    Calls Try.prog 17 #[.pointer (some ⟨p, 0, none⟩), .int .i64 n] w (ChosenL p (len - len) n w) := by
  have h0 := h.slice
  have h1 := h.at1
  have hs := h.small
  have hd : decide ((len : Int) ≤ len) = true := by simp
  have HC := Lib.hid h
  clear h
  go_enter Try.func17, Try.ntmps17
  go_wp2_with fail
  go_quiet (fail)
  go_wp2
  go_ret
  exact ⟨0, rfl, by omega, fun h => by omega, fun _ => rfl, ⟨_, Nat.le_refl _, fun h1 h2 => by omega, _, _, _, _, HC.out.drewN _, rfl⟩, grownBy_drewN _ _ _⟩
theorem nextL_zero (p : Nat) (n : Int) (so : Option Addr) (len cap at' : Nat) (w : World) (h : Codes p so len cap at' w) (hlt : at' < len) (hn : n < 1) :
    Calls Try.prog 17 #[.pointer (some ⟨p, 0, none⟩), .int .i64 n] w (ChosenL p (len - at') n w) := by
  have h0 := h.slice
  have h1 := h.at1
  have hs := h.small
  have hd : decide ((len : Int) ≤ at') = false := by simp; omega
  have HC := Lib.hid h
  clear h
  go_enter Try.func17, Try.ntmps17
  go_wp2_with fail
  go_quiet (fail)
  go_wp2
  go_ret
  exact ⟨0, rfl, by omega, fun h => by omega, fun _ => rfl, ⟨_, Nat.le_refl _, fun h1 h2 => by omega, _, _, _, _, HC.out.drewN _, rfl⟩, grownBy_drewN _ _ _⟩
theorem nextL_one (p : Nat) (n : Int) (so : Option Addr) (len cap at' : Nat) (w : World) (h : Codes p so len cap at' w) (hlt : at' < len) (hn : 1 ≤ n) (hn2 : n ≤ 256) :
    Calls Try.prog 17 #[.pointer (some ⟨p, 0, none⟩), .int .i64 n] w (ChosenL p (len - at') n w) := by
  have h0 := h.slice
  have h1 := h.at1
  have hs := h.small
  have hf := h.free
  have hd : decide ((len : Int) ≤ at') = false := by simp; omega
  have hd2 : decide (n < 1) = false := by simp; omega
  obtain ⟨b, off, x, rfl, hbp, hc, hx0, hx1⟩ := h.bytes at' hlt
  have hb : b ≠ p := Nat.ne_of_lt hbp
  have q0 : (0 : Int) ≤ (at' : Int) := by omega
  have q1 : (at' : Int) < len := by omega
  have HC := Lib.hid h
  clear h
  go_enter Try.func17, Try.ntmps17
  go_wp2_with fail
  go_quiet (fail)
  go_wp2
  go_quiet (fail)
  go_wp2
  go_ret
  exact ⟨x % n, rfl, Int.emod_nonneg _ (by omega), fun _ => Int.emod_lt_of_pos _ (by omega), fun h => by omega, ⟨len - (at' + 1), by omega, fun _ _ => by omega, _, _, _, _, (HC.out.drewN _).step hlt, rfl⟩, grownBy_setCell (grownBy_drewN _ _ _) _⟩
theorem nextL_small (p m : Nat) (n : Int) (w : World) (h : CodL p m w) (hn2 : n ≤ 256) :
    Calls Try.prog 17 #[.pointer (some ⟨p, 0, none⟩), .int .i64 n] w (ChosenL p m n w) := by
  obtain ⟨so, len, cap, at', h, rfl⟩ := h
  have hle := h.le
  by_cases e : at' = len
  · subst e
    exact nextL_end p n so _ cap w h
  · by_cases hn : n < 1
    · exact nextL_zero p n so len cap at' w h (by omega) hn
    · exact nextL_one p n so len cap at' w h (by omega) (by omega) hn2
theorem nextL_big (p : Nat) (n : Int) (so : Option Addr) (len cap at' : Nat) (w : World) (h : Codes p so len cap at' w) (hlt : at' < len) (hn2 : 256 < n) (hnb : n ≤ 1000000) :
    Calls Try.prog 17 #[.pointer (some ⟨p, 0, none⟩), .int .i64 n] w (ChosenL p (len - at') n w) := by
  have h0 := h.slice
  have h1 := h.at1
  have hs := h.small
  have hf := h.free
  have hd : decide ((len : Int) ≤ at') = false := by simp; omega
  have hd2 : decide (n < 1) = false := by simp; omega
  obtain ⟨b, off, x, rfl, hbp, hc, hx0, hx1⟩ := h.bytes at' hlt
  have hb : b ≠ p := Nat.ne_of_lt hbp
  have q0 : (0 : Int) ≤ (at' : Int) := by omega
  have q1 : (at' : Int) < len := by omega
  have HC := Lib.hid h
  clear h
  go_enter Try.func17, Try.ntmps17
  go_wp2_with fail
  go_quiet (fail)
  go_wp2_with fail
  go_quiet (fail)
  go_wp2_with (go_at_call 17; refine (nextL_small p (len - (at' + 1)) 256 _ ⟨_, _, _, _, (HC.out.drewN _).step hlt, rfl⟩ (by omega)).mono ?_; rintro e w2 ⟨r, rfl, hr0, hr1, hr2, ⟨m2, hm1, _, hC2⟩, hg2⟩)
  go_ret
  exact ⟨(256 * x + r) % n, rfl, Int.emod_nonneg _ (by omega), fun _ => Int.emod_lt_of_pos _ (by omega), fun h => by omega, ⟨m2, by omega, fun _ _ => by omega, hC2⟩, grownBy_trans (grownBy_setCell (grownBy_drewN _ _ _) _) hg2⟩
theorem nextL_any (p m : Nat) (n : Int) (w : World) (h : CodL p m w) (hnb : n ≤ 1000000) :
    Calls Try.prog 17 #[.pointer (some ⟨p, 0, none⟩), .int .i64 n] w (ChosenL p m n w) := by
  by_cases hn : n ≤ 256
  · exact nextL_small p m n w h hn
  · obtain ⟨so, len, cap, at', h, rfl⟩ := h
    have hle := h.le
    by_cases e : at' = len
    · subst e
      exact nextL_end p n so _ cap w h
    · exact nextL_big p n so len cap at' w h (by omega) (by omega) hnb
theorem left_any (p m : Nat) (w : World) (h : CodL p m w) : Calls Try.prog 33 #[.pointer (some ⟨p, 0, none⟩)] w fun e w' => e = .returned (.int .i64 (m : Int)) ∧ Below w.heap.size w w' := by
  obtain ⟨so, len, cap, at', h, rfl⟩ := h
  have h0 := h.slice
  have h1 := h.at1
  have hs := h.small
  have hle := h.le
  have q : IntKind.i64.wrap ((len : Int) - (at' : Int)) = ((len - at' : Nat) : Int) := by rw [IntKind.wrap_i64]; omega
  clear h
  go_enter Try.func33, Try.ntmps33
  go_wp2
  go_quiet (fail)
  go_wp2
  go_ret
  exact ⟨rfl, la.below_drewN (Below.refl _ _) _⟩
theorem codL_new {p : Nat} {w : World} (h : Cod p w) : ∃ m, CodL p m w := by
  obtain ⟨so, len, cap, at', h⟩ := h
  exact ⟨_, so, len, cap, at', h, rfl⟩
theorem codL_keep {p m : Nat} {w w' : World} (h : CodL p m w) (hb : Below w.heap.size w w') : CodL p m w' := by
  obtain ⟨so, len, cap, at', h, rfl⟩ := h
  have hp := cell_lt h.slice
  refine ⟨so, len, cap, at', ⟨(hb.cell (p := ⟨p, 0, none⟩) hp).trans h.slice, (hb.cell (p := ⟨p, 1, none⟩) hp).trans h.at1, (hb.frozen (p := ⟨p, 1, none⟩) hp).trans h.free, h.le, h.small, fun i hi => ?_⟩, rfl⟩
  obtain ⟨b, off, x, e, hne, hc, hx⟩ := h.bytes i hi
  exact ⟨b, off, x, e, hne, (hb.cell (p := ⟨b, off + i, none⟩) (cell_lt hc)).trans hc, hx⟩
theorem codL_lt {p m : Nat} {w : World} (h : CodL p m w) : p < w.heap.size := by
  obtain ⟨so, len, cap, at', h, _⟩ := h
  exact cell_lt h.slice
theorem codL_set {p m : Nat} {w : World} (h : CodL p m w) {a : Addr} (ha : p < a.block) (v : Value) : CodL p m (w.setCell a v) := by
  obtain ⟨so, len, cap, at', h, rfl⟩ := h
  refine ⟨so, len, cap, at', ⟨?_, ?_, by rw [World.frozen?_setCell]; exact h.free, h.le, h.small, fun i hi => ?_⟩, rfl⟩
  · rw [World.cell?_setCell_other (h := fun e => by rw [e] at ha; exact Nat.lt_irrefl _ ha)]; exact h.slice
  · rw [World.cell?_setCell_other (h := fun e => by rw [e] at ha; exact Nat.lt_irrefl _ ha)]; exact h.at1
  · obtain ⟨b, off, x, e, hb, hc, hx⟩ := h.bytes i hi
    refine ⟨b, off, x, e, hb, ?_, hx⟩
    rw [World.cell?_setCell_other (h := fun e => by rw [e] at ha; simp only at ha; omega)]
    exact hc
/-- make([]byte, 256). -/
def zeroObj (n : Nat) : Obj := .cells (madeCells #[.int .u8 0] n) 5
theorem info5 : (Try.prog.info? 5).map (fun i => (i.zero, i.size, i.bytes)) = some (some (.int .u8 0), 1, 1) := by kernel_rfl
theorem make_zero (n : Nat) (hn : n ≤ 100000) (x : Int) (hx : x = (n : Int)) (W : World) : (Instr.makeSlice 22 (.int .i64 x) (.int .i64 x)).run Try.prog W = .ok (.slice (some ⟨W.heap.size, 0, none⟩) n n) (W.alloc (zeroObj n)) := by
  subst hx
  obtain ⟨i, hi, h0, h1, h2⟩ : ∃ i, Try.prog.info? 5 = some i ∧ i.zero = some (.int .u8 0) ∧ i.size = 1 ∧ i.bytes = 1 := by
    have h := info5
    rcases hh : Try.prog.info? 5 with _ | i
    · rw [hh] at h; cases h
    · rw [hh] at h
      simp only [Option.map_some, Option.some.injEq, Prod.mk.injEq] at h
      exact ⟨i, rfl, h.1, h.2.1, h.2.2⟩
  have := run_make (P := Try.prog) W 22 5 i _ Try.underlying22 hi h0 .i64 .i64 (n : Int) (n : Int) (by omega) (by omega) (by rw [h2]; omega) (by omega)
  rw [this]
  rw [h1, Int.toNat_natCast, Nat.mul_one]
  rfl
theorem zero_cells (W : World) (n i : Nat) (hi : i < n) : (W.alloc (zeroObj n)).cell? ⟨W.heap.size, i, none⟩ = some (.int .u8 0) := by
  have h2 : (W.alloc (zeroObj n)).heap[W.heap.size]? = some (zeroObj n) := by simp [World.alloc, -World.alloc_eq]
  unfold World.cell?
  generalize (W.alloc (zeroObj n)).heap[W.heap.size]? = o at h2
  subst h2
  simp [zeroObj, madeCells, hi, Nat.mod_one]
theorem zero_row (w : World) : BRow w.heap.size (List.replicate 256 0) (w.alloc (zeroObj 256)) :=
  ⟨by simp, List.length_replicate .., fun i hi => by rw [zero_cells w 256 i hi, List.getD, List.getElem?_replicate, if_pos hi]; rfl, fun i _ => World.frozen?_alloc_new ..⟩
theorem row_ne {p b : Nat} (h : p < b) : (some p : Option Nat) ≠ some b := fun e => by injection e with e; omega
/-- A text of a page is drawn. -/
def TextL (p m : Nat) (w : World) (e : Ending) (w' : World) : Prop := ∃ x : ByteArray, e = .returned (.string x) ∧ x.size = 256 ∧ (∃ m', m' ≤ m ∧ CodL p m' w') ∧ w.grownBy w' (some p)
set_option maxRecDepth 4000 in
set_option maxHeartbeats 2000000 in
theorem bytes_any (p m : Nat) (w : World) (h : CodL p m w) : Calls Try.prog 18 #[.pointer (some ⟨p, 0, none⟩)] w (TextL p m w) := by
  have hlt := codL_lt h
  have hmk := make_zero 256 (by decide) 256 rfl w
  have hB := zero_row w
  have hC := codL_keep h ((Below.refl _ _).alloc (Nat.le_refl _) (zeroObj 256))
  have hS := below_grownBy ((Below.refl w.heap.size w).alloc (Nat.le_refl _) (zeroObj 256)) (some p)
  generalize w.alloc (zeroObj 256) = W1 at hmk hB hC hS
  generalize hbk : w.heap.size = bk at hmk hB hlt
  have HC := Lib.hid hC
  have HS := Lib.hid hS
  have HB := Lib.hid hB
  have HK := Lib.hid hbk
  clear hC hS hB h hbk
  go_enter Try.func18, Try.ntmps18
  go_wp2_with fail
  go_at_call 17
  refine (nextL_any p m 256 _ HC.out (by decide)).mono ?_
  rintro e w2 ⟨c, rfl, hc0, hc1, _, ⟨m2, hm2, _, hC2⟩, hg2⟩
  have HB2 := Lib.hid (HB.out.grown hg2 (row_ne hlt))
  have HC2 : Hid (∃ m', m' ≤ m ∧ CodL p m' w2) := Lib.hid ⟨m2, hm2, hC2⟩
  have HS2 := Lib.hid (grownBy_trans HS.out hg2)
  have hc2 := hc1 (by decide)
  clear hC2 hg2 HB HC HS hc1 hm2
  go_wp2_with fail
  go_loopw [5] (fun i wr => ∃ j : Nat, j ≤ 256 ∧ i = .int .i64 j ∧ (∃ ns, BRow bk ns wr) ∧ (∃ m', m' ≤ m ∧ CodL p m' wr) ∧ w.grownBy wr (some p)) (fun i _ => 256 - (intOf i).toNat)
  case atStart => exact ⟨0, by omega, rfl, ⟨_, HB2.out⟩, HC2.out, HS2.out⟩
  case round =>
    clear HB2 HC2 HS2
    obtain ⟨j, hj, rfl, ⟨ns, hB⟩, hC, hS⟩ := hrel
    have HB := Lib.hid hB
    have HC := Lib.hid hC
    have HS := Lib.hid hS
    clear hB hC hS
    by_cases hj2 : j < 256
    · have q0 : (0 : Int) ≤ (j : Int) := by omega
      have q1 : (j : Int) < 256 := by omega
      have c1 := HB.out.cells j hj2
      have c2 := HB.out.free j hj2
      go_wp2_with fail
      go_roundw
      case rel =>
        obtain ⟨m3, h3, hC3⟩ := HC.out
        exact ⟨j + 1, by omega, by go_num, ⟨_, HB.out.set j hj2 _⟩, ⟨m3, h3, codL_set hC3 (by exact hlt) _⟩, grownBy_stored HS.out (by show w.heap.size ≤ bk; have := HK.out; omega) ⟨j, [_], rfl⟩⟩
      case measure => simp [intOf]; omega
    · obtain rfl : j = 256 := by omega
      obtain ⟨m3, hm3, hC3'⟩ := HC.out
      have HC3' := Lib.hid hC3'
      clear hC3'
      go_wp2_with fail
      go_at_call 17
      refine (nextL_any p m3 256 _ HC3'.out (by decide)).mono ?_
      rintro e w3 ⟨i0, rfl, hi0, hi1, _, ⟨m4, hm4, _, hC3⟩, hg3⟩
      obtain ⟨i, rfl⟩ := Int.eq_ofNat_of_zero_le hi0
      have hi2 := hi1 (by decide)
      have HB3 := Lib.hid (HB.out.grown hg3 (row_ne hlt))
      have HC3 := Lib.hid hC3
      have HS3 := Lib.hid (grownBy_trans HS.out hg3)
      clear hC3 hg3 hi0 hi1 HB HC HS HC3'
      go_wp2_with fail
      go_at_call 17
      refine (nextL_any p m4 256 _ HC3.out (by decide)).mono ?_
      rintro e w4 ⟨x, rfl, hx0, hx1, _, ⟨m5, hm5, _, hC4⟩, hg4⟩
      have HB4 := Lib.hid (HB3.out.grown hg4 (row_ne hlt))
      have HC4 := Lib.hid hC4
      have HS4 := Lib.hid (grownBy_trans HS3.out hg4)
      have hx2 := hx1 (by decide)
      clear hC4 hg4 HB3 HC3 HS3 hx1
      have q1 : (0 : Int) ≤ (i : Int) := by omega
      have q2 : (i : Int) < 256 := by omega
      have c1 := HB4.out.cells i (by omega)
      have c2 := HB4.out.free i (by omega)
      have hB5 := HB4.out.set i (by omega) x
      have hcv := conv_brow (cap := 256) hB5
      have HL := Lib.hid (strOfNums_len hB5.len)
      clear hB5
      go_wp2_with fail
      go_ret
      exact ⟨_, rfl, HL.out, ⟨m5, by omega, codL_set HC4.out (by exact hlt) _⟩, grownBy_stored HS4.out (by show w.heap.size ≤ bk; have := HK.out; omega) ⟨i, [_], rfl⟩⟩
/-- A device value that lies behind block p. -/
def DevL (b : Nat) (vs : List Value) (d : Dev) (w : World) : Prop := DevV vs d w ∧ Lo b vs
theorem sl_grown {v : Value} {k n : Nat} {xs : List Value} {w w' : World} {row : Option Nat} (h : Sl v k n xs w) (hg : w.grownBy w' row) (hne : ∀ g, v.ownBlock = some g → row ≠ some g) : Sl v k n xs w' := by
  refine ⟨h.1, h.2.1, ?_⟩
  rcases h.2.2 with h2 | ⟨b, off, cap, rfl, h3, h4, h5⟩
  · exact .inl h2
  · exact .inr ⟨b, off, cap, rfl, h3, Nat.lt_of_lt_of_le h4 hg.size, fun i u hu => (World.cell?_of_block (w := w) (a := ⟨b, off + i, none⟩) (hg.block b h4 (fun e => hne b rfl e.symm))).trans (h5 i u hu)⟩
theorem DevL.grown {b : Nat} {vs : List Value} {d : Dev} {w w' : World} {row : Option Nat} (h : DevL b vs d w) (hg : w.grownBy w' row) (hb : ∀ k, row = some k → k < b) : DevL b vs d w' := by
  obtain ⟨⟨vp, vu, vf, rfl, h1, h2, h3⟩, hl⟩ := h
  have ne : ∀ v ∈ dvals vp d.writes vu d.dead vf, ∀ g, v.ownBlock = some g → row ≠ some g := fun v hv g e e2 => by
    have := hl v hv g e
    have := hb g e2
    omega
  exact ⟨⟨vp, vu, vf, rfl, sl_grown h1 hg (ne vp (by simp [dvals])), sl_grown h2 hg (ne vu (by simp [dvals])), sl_grown h3 hg (ne vf (by simp [dvals]))⟩, hl⟩
theorem DevL.keep {b : Nat} {vs : List Value} {d : Dev} {w w' : World} (h : DevL b vs d w) (hb : Below w.heap.size w w') : DevL b vs d w' := ⟨h.1.keep hb, h.2⟩
end Go.Proofs.Ytikpchhhenonaaa.lv
