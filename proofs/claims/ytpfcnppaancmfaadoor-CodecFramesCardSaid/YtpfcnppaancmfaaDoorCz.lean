/- CodecFrames: the walk. -/
import Derived.Test.YtpfcnppaancmfaaDoorCy
namespace Go.Proofs.YtpfcnppaancmfaaDoor.cz
open Go.ChangeShapes Go.WideShapes Go.ChangeAt Go.RowKit Go.Proofs.YtpfcnppaancmfaaDoor.cm Go.Proofs.YtpfcnppaancmfaaDoor.cw Go.Proofs.YtpfcnppaancmfaaDoor.cp Go.Proofs.YtpfcnppaancmfaaDoor.cg Go.Proofs.YtpfcnppaancmfaaDoor.ca Go.Proofs.YtpfcnppaancmfaaDoor.cu Go.Proofs.YtpfcnppaancmfaaDoor.cd Go.Proofs.YtpfcnppaancmfaaDoor.cn Go.Proofs.YtpfcnppaancmfaaDoor.cx Go.Proofs.YtpfcnppaancmfaaDoor.cy

theorem frames_long (so : Option Addr) (len cap : Nat) (s : ByteArray) (a k : Int) (w : World) (hw : TabOk w) (h : 600 < s.size) :
    Calls Tryd.prog 5 #[.slice so len cap, .string s, .int .i64 a, .int .u8 k] w fun e w' => e = .returned (.bool true) ∧ Below w.heap.size w w' := by
  go_enter Tryd.func5, Tryd.ntmps5
  go_wp2_with (go_at_call 8; refine (awake_any _ hw).mono ?_; rintro e w1 ⟨rfl, hb1⟩)
  go_ret
  exact ⟨rfl, by assumption⟩

theorem spoilt_any (p : Nat) (s : ByteArray) (w : World) (h : Cod p w) (hs2 : s.size ≤ 900000) :
    Calls Tryd.prog 15 #[.pointer (some ⟨p, 0, none⟩), .string s] w (Spoilt p s.size w) := by
  by_cases hz : s.size = 0
  · obtain rfl : s = ⟨#[]⟩ := by
      apply ByteArray.ext
      exact Array.eq_empty_of_size_eq_zero hz
    exact spoilt_empty p w h
  · exact spoilt_full p s w h (by omega) hs2
theorem frameV_size (p : ByteArray) : (frameV p).size ≤ p.size + 8 := by
  unfold frameV
  split
  · rw [frame_size]; omega
  · show 0 ≤ _
    omega
theorem bytesIn_below {so : Option Addr} {len : Nat} {w w' : World} (h : BytesIn so len w) (hb : Below w.heap.size w w') : BytesIn so len w' := fun i hi => by
  obtain ⟨b, off, x, e, hc, hx⟩ := h i hi
  exact ⟨b, off, x, e, (hb.cell (p := ⟨b, off + i, none⟩) (cell_lt hc)).trans hc, hx⟩

theorem Has.grown {b : Nat} {l : List Value} {w w' : World} {p : Nat} (h : Has b l w) (hg : w.grownBy w' (some p)) (hne : b ≠ p) : Has b l w' :=
  ⟨Nat.lt_of_lt_of_le h.1 hg.size, fun i v hi => (World.cell?_of_block (a := ⟨b, i, none⟩) (hg.block b h.1 (fun e => hne (by injection e)))).trans (h.2 i v hi)⟩
theorem un_any (s : ByteArray) (x : Int) (w : World) (hs : s.size ≤ 1099511627776) (hw : TabOk w) : Calls Tryd.prog 17 #[.string s, .int .i64 x] w fun e w' => e = .returned (.tuple #[.string (unf s x).1, .int .i64 (unf s x).2.1, .int .i64 (unf s x).2.2]) ∧ w = w' := unframe_any s x w hs hw
theorem refUn_any (s : ByteArray) (x : Int) (w : World) (hs : s.size ≤ 1099511627776) : Calls Tryd.prog 18 #[.string s, .int .i64 x] w fun e w' => e = .returned (.tuple #[.string (unf s x).1, .int .i64 (unf s x).2.1, .int .i64 (unf s x).2.2]) ∧ w = w' := refUnframe_any s x w hs
/-- The six texts. -/
def Six (B : Nat) (w : World) : Prop := B < w.heap.size ∧ ∀ j, j < 6 → ∃ x : ByteArray, w.cell? ⟨B, j, none⟩ = some (.string x) ∧ x.size ≤ 2000
theorem six_new (w : World) (x0 x1 x2 x3 x4 x5 : ByteArray) (h0 : x0.size ≤ 2000) (h1 : x1.size ≤ 2000) (h2 : x2.size ≤ 2000) (h3 : x3.size ≤ 2000) (h4 : x4.size ≤ 2000) (h5 : x5.size ≤ 2000) :
    Six w.heap.size (w.alloc (.cells #[.string x0, .string x1, .string x2, .string x3, .string x4, .string x5] 9)) := by
  have hh := Has.new [.string x0, .string x1, .string x2, .string x3, .string x4, .string x5] w 9
  refine ⟨hh.1, fun j hj => ?_⟩
  have h6 : j = 0 ∨ j = 1 ∨ j = 2 ∨ j = 3 ∨ j = 4 ∨ j = 5 := by omega
  rcases h6 with rfl | rfl | rfl | rfl | rfl | rfl
  · exact ⟨x0, hh.2 0 _ rfl, h0⟩
  · exact ⟨x1, hh.2 1 _ rfl, h1⟩
  · exact ⟨x2, hh.2 2 _ rfl, h2⟩
  · exact ⟨x3, hh.2 3 _ rfl, h3⟩
  · exact ⟨x4, hh.2 4 _ rfl, h4⟩
  · exact ⟨x5, hh.2 5 _ rfl, h5⟩
theorem Six.below {B : Nat} {w w' : World} (h : Six B w) (hb : Below w.heap.size w w') : Six B w' :=
  ⟨Nat.lt_of_lt_of_le h.1 hb.size, fun j hj => by
    obtain ⟨x, hx, hz⟩ := h.2 j hj
    exact ⟨x, (hb.cell (p := ⟨B, j, none⟩) h.1).trans hx, hz⟩⟩
theorem Six.grown {B : Nat} {w w' : World} {p : Nat} (h : Six B w) (hg : w.grownBy w' (some p)) (hne : B ≠ p) : Six B w' :=
  ⟨Nat.lt_of_lt_of_le h.1 hg.size, fun j hj => by
    obtain ⟨x, hx, hz⟩ := h.2 j hj
    exact ⟨x, (World.cell?_of_block (a := ⟨B, j, none⟩) (hg.block B h.1 (fun e => hne (by injection e)))).trans hx, hz⟩⟩
theorem below_grown {B : Nat} {w w' w2 : World} {p : Nat} (h : Below B w w') (hg : w'.grownBy w2 (some p)) (hB : B ≤ w'.heap.size) (hp : B ≤ p) : Below B w w2 :=
  h.grown hg hB fun k e => by injection e with e; omega
theorem Cod.below {p : Nat} {w w' : World} (h : Cod p w) (hb : Below w.heap.size w w') : Cod p w' := by
  obtain ⟨so, len, cap, at', h⟩ := h
  have hp := cell_lt h.slice
  refine ⟨so, len, cap, at', (hb.cell (p := ⟨p, 0, none⟩) hp).trans h.slice, (hb.cell (p := ⟨p, 1, none⟩) hp).trans h.at1, (hb.frozen (p := ⟨p, 1, none⟩) hp).trans h.free, h.le, h.small, fun i hi => ?_⟩
  obtain ⟨b, off, x, e, hne, hc, hx⟩ := h.bytes i hi
  exact ⟨b, off, x, e, hne, (hb.cell (p := ⟨b, off + i, none⟩) (cell_lt hc)).trans hc, hx⟩
theorem conv4 (W : World) (x y z t : Int) : (convert 31 9 (.slice (some ⟨W.heap.size, 0, none⟩) 4 4)).run Tryd.prog (W.alloc (.cells #[.int .u8 x, .int .u8 y, .int .u8 z, .int .u8 t] 5)) = .ok (.string (strOfNums [x, y, z, t])) (W.alloc (.cells #[.int .u8 x, .int .u8 y, .int .u8 z, .int .u8 t] 5)) :=
  run_convert_bytes_arg (P := Tryd.prog) _ 31 5 Tryd.underlying31 Tryd.underlying5 W.heap.size 0 4 4 [x, y, z, t] rfl (fun i hi => by
    have h4 : i = 0 ∨ i = 1 ∨ i = 2 ∨ i = 3 := by omega
    rcases h4 with rfl | rfl | rfl | rfl <;> go_simp) 9 Tryd.underlying9

theorem info5 : (Tryd.prog.info? 5).map (fun i => (i.zero, i.size, i.bytes)) = some (some (.int .u8 0), 1, 1) := by kernel_rfl
/-- What make([]byte, n) lays, and the text of it. -/
def zeroObj (n : Nat) : Obj := .cells (madeCells #[.int .u8 0] n) 5
def zeroS (n : Nat) : ByteArray := strOfNums (List.replicate n 0)
theorem make_zero (x : Int) (n : Nat) (hx : x = n) (hn : n ≤ 100000) (W : World) : (Instr.makeSlice 31 (.int .i64 x) (.int .i64 x)).run Tryd.prog W = .ok (.slice (some ⟨W.heap.size, 0, none⟩) n n) (W.alloc (zeroObj n)) := by
  obtain ⟨i, hi, h0, h1, h2⟩ := info_parts info5
  subst hx
  have := run_make (P := Tryd.prog) W 31 5 i _ Tryd.underlying31 hi h0 .i64 .i64 (n : Int) (n : Int) (by omega) (by omega) (by rw [h2]; omega) (by omega)
  rw [this]
  rw [h1, Int.toNat_natCast, Nat.mul_one]
  rfl
theorem zero_cells (W : World) (n i : Nat) (hi : i < n) : (W.alloc (zeroObj n)).cell? ⟨W.heap.size, i, none⟩ = some (.int .u8 0) := by
  have h2 : (W.alloc (zeroObj n)).heap[W.heap.size]? = some (zeroObj n) := by simp [World.alloc, -World.alloc_eq]
  unfold World.cell?
  generalize (W.alloc (zeroObj n)).heap[W.heap.size]? = o at h2
  subst h2
  simp [zeroObj, madeCells, hi, Nat.mod_one]
theorem conv_zero (W : World) (n : Nat) : (convert 31 9 (.slice (some ⟨W.heap.size, 0, none⟩) n n)).run Tryd.prog (W.alloc (zeroObj n)) = .ok (.string (zeroS n)) (W.alloc (zeroObj n)) :=
  run_convert_bytes_arg (P := Tryd.prog) _ 31 5 Tryd.underlying31 Tryd.underlying5 W.heap.size 0 n n (List.replicate n 0) (by simp) (fun i hi => by
    rw [Nat.zero_add, zero_cells W n i hi]
    simp [List.getD, hi]) 9 Tryd.underlying9

set_option maxRecDepth 100000 in
set_option maxHeartbeats 4000000 in
theorem frames_walk (so : Option Addr) (len cap : Nat) (s : ByteArray) (a k : Int) (w : World) (hw : TabOk w) (h : s.size ≤ 600) (hk : 0 ≤ k) (hk2 : k ≤ 255) (hin : BytesIn so len w) (hl : len ≤ 9223372036854775807) (hc : len ≤ cap) :
    Calls Tryd.prog 5 #[.slice so len cap, .string s, .int .i64 a, .int .u8 k] w fun e w' => e = .returned (.bool true) ∧ Below w.heap.size w w' := by
  have hz := tab_size hw
  have HIN := Lib.hid hin
  clear hin
  go_enter Tryd.func5, Tryd.ntmps5
  go_wp2_with (first
    | (go_at_call 8; refine (awake_any _ hw).mono ?_; rintro e w1 ⟨rfl, hb1⟩)
    | (go_at_call 13; refine (new_any so len cap _ (by exact bytesIn_below HIN.out (by assumption)) hl hc).mono ?_; rintro e w2 ⟨rfl, hC2, hb2, hz2⟩)
    | (go_at_call 14; refine (refFrame_any _ _).mono ?_; rintro e w3 ⟨rfl, hb3⟩))
  have z1 := hb1.size
  have z3 := hb3.size
  have hF := frameV_size s
  have B3 : Below w.heap.size w w3 := (hb1.trans (hb2.mono z1)).trans (hb3.mono (by omega))
  have hC3 : Cod w1.heap.size w3 := Cod.below hC2 hb3
  have hp : w.heap.size ≤ w1.heap.size := z1
  generalize frameV s = F at hF
  generalize w1.heap.size = p at hC3 hp
  clear hC2 hb1 hb2 hb3
  have HC3 := Lib.hid hC3
  clear hC3
  have q4 : IntKind.i64.wrap ((F.size : Int) + 1) = (F.size : Int) + 1 := IntWalk.i64_in _ ⟨by omega, by omega⟩
  have q5 : (0 : Int) ≤ (F.size : Int) + 1 := by omega
  have hc4 := conv4
  have s1 : ∀ W : World, (Op.stringOp .add s F).run Tryd.prog W = .ok (.string (s ++ F)) W := fun W => run_string_add_sum W _ _ (by omega)
  have s2 : ∀ (x y : Int) (W : World), (Op.stringOp .add (strOfNums [x, y, 0, 0]) s).run Tryd.prog W = .ok (.string (strOfNums [x, y, 0, 0] ++ s)) W := fun x y W => run_string_add_sum W _ _ (by rw [strOfNums_size]; simp; omega)
  go_region_with (first
    | (go_at_call 15; (with_reducible refine (spoilt_any p F _ (by exact HC3.out.drew) (by omega)).mono ?_); rintro e w4 ⟨r4, rfl, hr4, hC4, hg4⟩)
    | (go_at_call 16; (with_reducible refine (next_any p ((F.size : Int) + 1) _ (by exact hC4) (by omega)).mono ?_); rintro e w5 ⟨r5, rfl, hr50, hr51, hr52, hC5, hg5⟩; have hr5 : r5 ≤ F.size := (by have := hr51 (by omega); omega); clear hr51 hr52)
    | (go_at_call 16; (with_reducible refine (next_any p 256 _ (by exact hC5) (by omega)).mono ?_); rintro e w6 ⟨r6, rfl, hr60, hr61, hr62, hC6, hg6⟩; clear hr61 hr62)
    | (go_at_call 16; (with_reducible refine (next_any p 64 _ (by exact hC6) (by omega)).mono ?_); rintro e w7 ⟨r7, rfl, hr70, hr71, hr72, hC7, hg7⟩; clear hr71 hr72))
  have hn7 : (F.extract 0 r5.toNat).size ≤ 2000 := by rw [ByteArray.size_extract]; omega
  have z3' : w.heap.size ≤ w3.heap.size := B3.size
  have z4 := hg4.size
  have z5 := hg5.size
  have z6 := hg6.size
  have z7 := hg7.size
  have e3 : w3.drew.heap.size = w3.heap.size := rfl
  have B7 : Below w.heap.size w w7 := below_grown (below_grown (below_grown (below_grown B3.drew hg4 (by omega) hp) hg5 (by omega) hp) hg6 (by omega) hp) hg7 (by omega) hp
  have hp7 : p < w7.heap.size := by
    obtain ⟨_, _, _, _, hh⟩ := hC7
    exact cell_lt hh.slice
  clear hC4 hC5 hC6 hg4 hg5 hg6 hg7 s1 s2 hc4 q4 q5
  go_wp2
  simp only [List.getElem_toArray, List.getElem_cons_zero, List.getElem_cons_succ, Act.put, List.setIfInBounds_toArray, List.set_cons_succ, List.set_cons_zero]
  have n4 : (s ++ F).size ≤ 2000 := by rw [ByteArray.size_append]; omega
  have n6 : (strOfNums [IntKind.u8.wrap r6, IntKind.u8.wrap r7, 0, 0] ++ s).size ≤ 2000 := by rw [ByteArray.size_append, strOfNums_size]; simp; omega
  have S8 := six_new (w7.alloc (.cells #[.int .u8 (IntKind.u8.wrap r6), .int .u8 (IntKind.u8.wrap r7), .int .u8 0, .int .u8 0] 5)) s F r4 (s ++ F) (F.extract 0 r5.toNat) (strOfNums [IntKind.u8.wrap r6, IntKind.u8.wrap r7, 0, 0] ++ s) (by omega) (by omega) (by omega) n4 hn7 n6
  have C8 := (hC7.alloc (.cells #[.int .u8 (IntKind.u8.wrap r6), .int .u8 (IntKind.u8.wrap r7), .int .u8 0, .int .u8 0] 5)).alloc (.cells #[.string s, .string F, .string r4, .string (s ++ F), .string (F.extract 0 r5.toNat), .string (strOfNums [IntKind.u8.wrap r6, IntKind.u8.wrap r7, 0, 0] ++ s)] 9)
  have B8 := (B7.alloc (by omega) (.cells #[.int .u8 (IntKind.u8.wrap r6), .int .u8 (IntKind.u8.wrap r7), .int .u8 0, .int .u8 0] 5)).alloc (by simp; omega) (.cells #[.string s, .string F, .string r4, .string (s ++ F), .string (F.extract 0 r5.toNat), .string (strOfNums [IntKind.u8.wrap r6, IntKind.u8.wrap r7, 0, 0] ++ s)] 9)
  have z8 : (w7.alloc (.cells #[.int .u8 (IntKind.u8.wrap r6), .int .u8 (IntKind.u8.wrap r7), .int .u8 0, .int .u8 0] 5)).heap.size = w7.heap.size + 1 := by simp
  rw [z8] at S8
  clear z8 hC7 B7
  generalize ((w7.alloc (.cells #[.int .u8 (IntKind.u8.wrap r6), .int .u8 (IntKind.u8.wrap r7), .int .u8 0, .int .u8 0] 5)).alloc (.cells #[.string s, .string F, .string r4, .string (s ++ F), .string (F.extract 0 r5.toNat), .string (strOfNums [IntKind.u8.wrap r6, IntKind.u8.wrap r7, 0, 0] ++ s)] 9)) = w8 at S8 C8 B8
  have hpB : p < w7.heap.size + 1 := by omega
  have hwB : w.heap.size ≤ w7.heap.size + 1 := by omega
  generalize w7.heap.size + 1 = B6 at S8 hpB hwB
  have S8 := Lib.hid S8
  have C8 := Lib.hid C8
  go_loopw [63] (fun i wr => ∃ j : Nat, j ≤ 6 ∧ i = .int .i64 j ∧ Six B6 wr ∧ Cod p wr ∧ Below w.heap.size w wr) (fun i _ => 6 - (intOf i).toNat)
  case atStart => exact ⟨0, by omega, rfl, S8.out, C8.out, B8⟩
  case round =>
    clear S8 C8 B8
    obtain ⟨j, hj, rfl, hS, hC, hB⟩ := hrel
    obtain ⟨wo, rfl⟩ : ∃ wo : World, wo = wr := ⟨_, rfl⟩
    by_cases hlt : j < 6
    · obtain ⟨x, hcell, hx⟩ := hS.2 j hlt
      have hzo := hB.size
      have HS := Lib.hid hS
      have HC := Lib.hid hC
      clear hS hC
      go_wp2_with (go_at_call 16; refine (next_any p _ _ HC.out (by omega)).mono ?_; rintro e w9 ⟨r9, rfl, hr90, hr91, hr92, hC9, hg9⟩; clear hr91 hr92)
      have z9 := hg9.size
      have B9 : Below w.heap.size w w9 := below_grown hB hg9 hzo hp
      have A9 := Has.new [.int .i64 a, .int .i64 0, .int .i64 s.size, .int .i64 r9] w9 3
      have S9 := (HS.out.grown hg9 (by omega)).below ((Below.refl _ _).alloc (Nat.le_refl _) (.cells #[.int .i64 a, .int .i64 0, .int .i64 s.size, .int .i64 r9] 3))
      have C9 := hC9.alloc (.cells #[.int .i64 a, .int .i64 0, .int .i64 s.size, .int .i64 r9] 3)
      have B9' := B9.alloc (by omega) (.cells #[.int .i64 a, .int .i64 0, .int .i64 s.size, .int .i64 r9] 3)
      have A9 := Lib.hid A9
      have S9 := Lib.hid S9
      have C9 := Lib.hid C9
      clear hC9 hg9 B9 hcell
      go_loopw [77] (fun i wi => ∃ q : Nat, q ≤ 4 ∧ i = .int .i64 q ∧ Has w9.heap.size [.int .i64 a, .int .i64 0, .int .i64 s.size, .int .i64 r9] wi ∧ Six B6 wi ∧ Cod p wi ∧ Below w.heap.size w wi) (fun i _ => 4 - (intOf i).toNat)
      case atStart => exact ⟨0, by omega, rfl, A9.out, S9.out, C9.out, B9'⟩
      case round =>
        clear A9 S9 C9 B9'
        obtain ⟨q, hq, rfl, hA, hS2, hC2, hBi⟩ := hrel
        by_cases hlt4 : q < 4
        · obtain ⟨y, hcell⟩ : ∃ y : Int, wr.cell? ⟨w9.heap.size, q, none⟩ = some (.int .i64 y) := by
            have h4 : q = 0 ∨ q = 1 ∨ q = 2 ∨ q = 3 := by omega
            rcases h4 with rfl | rfl | rfl | rfl
            · exact ⟨_, hA.2 0 _ rfl⟩
            · exact ⟨_, hA.2 1 _ rfl⟩
            · exact ⟨_, hA.2 2 _ rfl⟩
            · exact ⟨_, hA.2 3 _ rfl⟩
          have hT := tab_below hw hBi hz
          have HA := Lib.hid hA
          have HS2 := Lib.hid hS2
          have HC2 := Lib.hid hC2
          clear hA hS2 hC2
          go_wp2_with (first
            | (go_at_call 17; refine (un_any _ _ _ (by omega) hT).mono ?_; rintro e w5 ⟨rfl, rfl⟩)
            | (go_at_call 18; refine (refUn_any _ _ _ (by omega)).mono ?_; rintro e w5 ⟨rfl, rfl⟩))
          go_roundw
          case rel => exact ⟨q + 1, by omega, by go_num, HA.out, HS2.out, HC2.out, hBi⟩
          case measure => simp [intOf]; omega
        · obtain rfl : q = 4 := by omega
          have hT := tab_below hw hBi hz
          have HS2 := Lib.hid hS2
          have HC2 := Lib.hid hC2
          clear hA hS2 hC2
          go_wp2_with (first
            | (go_at_call 19; refine (sum_n _ _ (by omega) hT).mono ?_; rintro e w5 ⟨rfl, rfl⟩)
            | (go_at_call 20; refine (refSum_n _ _ (by omega)).mono ?_; rintro e w5 ⟨rfl, rfl⟩)
            | (go_at_call 21; refine (frame_any _ _ hT).mono ?_; rintro e wa ⟨rfl, hba⟩)
            | (go_at_call 14; refine (refFrame_any _ _).mono ?_; rintro e wb ⟨rfl, hbb⟩))
          have zi := hBi.size
          have za := hba.size
          have Bb : Below w.heap.size w wb := (hBi.trans (hba.mono zi)).trans (hbb.mono (by omega))
          have Sb := (HS2.out.below hba).below hbb
          have Cb := Cod.below (Cod.below HC2.out hba) hbb
          go_roundw
          case rel => exact ⟨j + 1, by omega, by go_num, Sb, Cb, Bb⟩
          case measure => simp [intOf]; omega
    · obtain rfl : j = 6 := by omega
      have hzo := hB.size
      obtain ⟨n, hn⟩ : ∃ n : Nat, 8390 + k % 5 = (n : Int) := ⟨(8390 + k % 5).toNat, by omega⟩
      have hn2 : n ≤ 9000 := by omega
      have hmk := make_zero (8390 + k % 5) n hn (by omega)
      have hcz := fun W : World => conv_zero W n
      have HN := Lib.hid hn
      clear hn
      go_wp2_with (first
        | (go_at_call 16; refine (next_any p 8 _ hC (by omega)).mono ?_; rintro e w9 ⟨r9, rfl, hr90, hr91, hr92, hC9, hg9⟩; clear hr91 hr92; have B9 : Below w.heap.size w w9 := below_grown hB hg9 hzo hp)
        | (go_at_call 21; refine (frame_any _ _ (by exact tab_below hw (B9.alloc (by exact B9.size) _) hz)).mono ?_; rintro e wa ⟨rfl, hba⟩)
        | (go_at_call 14; refine (refFrame_any _ _).mono ?_; rintro e wb ⟨rfl, hbb⟩))
      · go_ret
        exact ⟨rfl, B9⟩
      · go_ret
        have z9 := B9.size
        have Ba := B9.alloc z9 (zeroObj n)
        have za := Ba.size
        have zb := hba.size
        exact ⟨rfl, (Ba.trans (hba.mono za)).trans (hbb.mono (by omega))⟩
end Go.Proofs.YtpfcnppaancmfaaDoor.cz
