/- CodecDamage: the walk. -/
import Derived.Test.YtpfcnppaancmfaaDoorCd
import Derived.Deep.RegionWith
namespace Go.Proofs.YtpfcnppaancmfaaDoor.ce
open Go.ChangeShapes Go.WideShapes Go.ChangeAt Go.RowKit Go.Proofs.YtpfcnppaancmfaaDoor.cm Go.Proofs.YtpfcnppaancmfaaDoor.cw Go.Proofs.YtpfcnppaancmfaaDoor.cp Go.Proofs.YtpfcnppaancmfaaDoor.cg Go.Proofs.YtpfcnppaancmfaaDoor.ca Go.Proofs.YtpfcnppaancmfaaDoor.cu Go.Proofs.YtpfcnppaancmfaaDoor.ck Go.Proofs.YtpfcnppaancmfaaDoor.cd

theorem damage_long (p : ByteArray) (a b : Int) (w : World) (hw : TabOk w) (h : 500 < p.size ∨ b = 0) :
    Calls Tryd.prog 6 #[.string p, .int .u16 a, .int .u8 b] w fun e w' => e = .returned (.bool true) ∧ Below w.heap.size w w' := by
  by_cases h1 : 500 < p.size
  · go_enter Tryd.func6, Tryd.ntmps6
    go_wp2_with (go_at_call 8; refine (awake_any _ hw).mono ?_; rintro e w1 ⟨rfl, hb1⟩)
    go_ret
    exact ⟨rfl, by assumption⟩
  · obtain rfl : b = 0 := by omega
    go_enter Tryd.func6, Tryd.ntmps6
    go_wp2_with (go_at_call 8; refine (awake_any _ hw).mono ?_; rintro e w1 ⟨rfl, hb1⟩)
    go_ret
    exact ⟨rfl, by assumption⟩

theorem conv1d (W : World) (x : Int) : (convert 31 9 (.slice (some ⟨W.heap.size, 0, none⟩) 1 1)).run Tryd.prog (W.alloc (.cells #[.int .u8 x] 5)).drew = .ok (.string (strOfNums [x])) (W.alloc (.cells #[.int .u8 x] 5)).drew :=
  run_convert_bytes_arg (P := Tryd.prog) _ 31 5 Tryd.underlying31 Tryd.underlying5 W.heap.size 0 1 1 [x] rfl (fun i hi => by
    obtain rfl : i = 0 := by omega
    go_simp) 9 Tryd.underlying9
/-- The frame with byte k changed, as the law makes it. -/
def hurt (f : ByteArray) (k : Nat) (x : Int) : ByteArray := f.extract 0 k ++ strOfNums [x] ++ f.extract (k + 1) f.size

theorem bits_xor8 (a b : Nat) (ha : a < 256) (hb : b < 256) : bits .xor .u8 (a : Int) (b : Int) = ((a ^^^ b : Nat) : Int) := by
  have ha' : a % 2 ^ IntKind.u8.bits = a := Nat.mod_eq_of_lt ha
  have hb' : b % 2 ^ IntKind.u8.bits = b := Nat.mod_eq_of_lt hb
  have hx : a ^^^ b < 2 ^ 8 := Nat.xor_lt_two_pow ha hb
  simp only [bits, BitVec.ofInt_natCast, BitVec.toNat_xor, BitVec.toNat_ofNat, ha', hb']
  rw [IntKind.wrap_u8]
  omega
theorem xor_ne (a b : Nat) (hb : b ≠ 0) : a ^^^ b ≠ a := fun e => hb (xor_left_inj (c := a) (by rw [e, Nat.xor_zero]))
theorem hurt_list (f : ByteArray) (k : Nat) (x : Int) (hk : k < f.size) : (hurt f k x).data.toList = f.data.toList.set k (UInt8.ofNat x.toNat) := by
  have hkl : k < f.data.toList.length := by simpa using hk
  rw [List.set_eq_take_append_cons_drop, if_pos hkl]
  unfold hurt
  rw [ByteArray.data_append, ByteArray.data_append, Array.toList_append, Array.toList_append, list_extract, list_extract, List.drop_zero, strOfNums_data, List.take_of_length_le (show f.data.toList.length ≤ f.size by simp)]
  simp
theorem un_hurt (p : ByteArray) (k : Nat) (b : Int) (w : World) (hw : TabOk w) (h : p.size ≤ 500) (h4 : 4 ≤ k) (hk : k < p.size + 8) (hf : k < (frameS p).size) (hb : b ≠ 0) (hb0 : 0 ≤ b) (hb1 : b ≤ 255) :
    Calls Tryd.prog 17 #[.string (hurt (frameS p) k (bits .xor .u8 (((frameS p)[k].toNat : Nat) : Int) b)), .int .i64 0] w fun e w' => e = .returned (.tuple #[.string ⟨#[]⟩, .int .i64 0, .int .i64 3]) ∧ w = w' := by
  have hl := hurt_list (frameS p) k (bits .xor .u8 (((frameS p)[k].toNat : Nat) : Int) b) hf
  have hn : UInt8.ofNat (bits .xor .u8 (((frameS p)[k].toNat : Nat) : Int) b).toNat ≠ (frameS p).data.toList.getD k 0 := by
    obtain ⟨c, rfl⟩ := Int.eq_ofNat_of_zero_le hb0
    have hlt := (frameS p)[k].toNat_lt
    have hx : (frameS p)[k].toNat ^^^ c < 2 ^ 8 := Nat.xor_lt_two_pow hlt (by omega)
    rw [bits_xor8 _ c (by omega) (by omega), getD_byte _ _ hf, Int.toNat_natCast]
    intro e
    have := congrArg UInt8.toNat e
    rw [UInt8.toNat_ofNat_of_lt' hx] at this
    exact xor_ne _ c (by omega) this
  have hu := unf_changed p _ (by omega) k h4 hk _ hl hn
  have hs : (hurt (frameS p) k (bits .xor .u8 (((frameS p)[k].toNat : Nat) : Int) b)).size ≤ 1099511627776 := by
    have := congrArg List.length hl
    have hz := frame_size p
    simp at this
    omega
  have := unframe_any _ 0 w hs hw
  unfold unfT at this
  rw [hu] at this
  exact this
theorem un_cut (p : ByteArray) (k : Nat) (w : World) (hw : TabOk w) (h : p.size ≤ 500) (h4 : 4 ≤ k) (hk : k < p.size + 8) :
    Calls Tryd.prog 17 #[.string ((frameS p).extract 0 k), .int .i64 0] w fun e w' => e = .returned (.tuple #[.string ⟨#[]⟩, .int .i64 0, .int .i64 5]) ∧ w = w' := by
  have hz := frame_size p
  have := unframe_any ((frameS p).extract 0 k) 0 w (by rw [ByteArray.size_extract]; omega) hw
  unfold unfT at this
  rw [unf_cut p (by omega) k h4 hk] at this
  exact this
theorem un_whole (p : ByteArray) (w : World) (hw : TabOk w) (h : p.size ≤ 500) :
    Calls Tryd.prog 17 #[.string (frameS p), .int .i64 0] w fun e w' => e = .returned (.tuple #[.string p, .int .i64 (p.size + 8 : Nat), .int .i64 0]) ∧ w = w' := by
  have hz := frame_size p
  have := unframe_any (frameS p) 0 w (by omega) hw
  unfold unfT at this
  rw [unf_frame p (by omega)] at this
  exact this

theorem slice_to (s : ByteArray) (y : Int) (j : Nat) (hy : y = j) (h2 : j ≤ s.size) (W : World) :
    (Instr.slice 9 (.string s) none (some (.int .i64 y)) none).run Tryd.prog W = .ok (.string (s.extract 0 j)) W := by
  subst hy
  have := run_slice_string_h (P := Tryd.prog) W 9 s Tryd.underlying9 .i64 (j : Int) (by omega) (by omega)
  simpa using this
theorem slice_from (s : ByteArray) (x : Int) (i n : Nat) (hx : x = i) (h2 : i ≤ s.size) (hn : s.size = n) (W : World) :
    (Instr.slice 9 (.string s) (some (.int .i64 x)) none none).run Tryd.prog W = .ok (.string (s.extract i n)) W := by
  subst hx; subst hn
  have := run_slice_string_l (P := Tryd.prog) W 9 s Tryd.underlying9 .i64 (i : Int) (by omega) (by omega)
  simpa using this

set_option maxHeartbeats 400000 in
theorem damage_walk (p : ByteArray) (a b : Int) (k : Nat) (w : World) (hw : TabOk w) (h : p.size ≤ 500) (hb : b ≠ 0) (ha : 0 ≤ a) (ha2 : a ≤ 65535) (hb0 : 0 ≤ b) (hbl : b ≤ 255) (hk : (k : Int) = 4 + a % (p.size + 8 - 4)) (hk4 : 4 ≤ k) (hk8 : k < p.size + 8) :
    Calls Tryd.prog 6 #[.string p, .int .u16 a, .int .u8 b] w fun e w' => e = .returned (.bool true) ∧ Below w.heap.size w w' := by
  have hz := tab_size hw
  have hf : (frameS p).size = p.size + 8 := frame_size p
  have hbb : (b == 0) = false := by simpa using hb
  have hmod : 4 + a % ((p.size : Int) + 8 - 4) = k := hk.symm
  have HK := Lib.hid hk
  have HB := Lib.hid hb
  clear hk hb
  go_enter Tryd.func6, Tryd.ntmps6
  go_wp2_with (first
    | (go_at_call 8; refine (awake_any _ hw).mono ?_; rintro e w1 ⟨rfl, hb1⟩)
    | (go_at_call 21; refine (frame_yes _ _ (tab_below hw (by assumption) hz) (by omega)).mono ?_; rintro e w2 ⟨rfl, hb2⟩))
  have hc1 := conv1d
  have s1 : ∀ (x : Int) (W : World), (Op.stringOp .add ((frameS p).extract 0 k) (strOfNums [x])).run Tryd.prog W = .ok (.string ((frameS p).extract 0 k ++ strOfNums [x])) W := fun x W =>
    run_string_add_sum W _ _ (by rw [ByteArray.size_extract, strOfNums_size]; simp; omega)
  have s2 : ∀ (x : Int) (W : World), (Op.stringOp .add ((frameS p).extract 0 k ++ strOfNums [x]) ((frameS p).extract (k + 1) (p.size + 8))).run Tryd.prog W = .ok (.string (hurt (frameS p) k x)) W := fun x W => by
    rw [← hf]
    exact run_string_add_sum W _ _ (by rw [ByteArray.size_append, ByteArray.size_extract, ByteArray.size_extract, strOfNums_size]; simp; omega)
  have hkf : k < (frameS p).size := by omega
  have B2 := hb1.trans (hb2.mono hb1.size)
  have hle : w.heap.size ≤ w2.heap.size := Nat.le_trans hb1.size hb2.size
  have hub : ∀ W, TabOk W → Calls Tryd.prog 17 #[.string (hurt (frameS p) k (bits .xor .u8 (((frameS p)[k].toNat : Nat) : Int) b)), .int .i64 0] W fun e w' => e = .returned (.tuple #[.string ⟨#[]⟩, .int .i64 0, .int .i64 3]) ∧ W = w' := fun W hW => un_hurt p k b W hW h hk4 hk8 hkf HB.out hb0 hbl
  have HU := Lib.hid hub
  clear hub
  have q0 : (0 : Int) ≤ (k : Int) + 1 := by omega
  have q1 : (k : Int) + 1 ≤ (p.size : Int) + 8 := by omega
  have q2 : (k : Int) ≤ (p.size : Int) + 8 := by omega
  have q3 : (k : Int) < (p.size : Int) + 8 := by omega
  have q4 : IntKind.i64.wrap ((k : Int) + 1) = (k : Int) + 1 := IntWalk.i64_in _ ⟨by omega, by omega⟩
  have q5 : ((k : Int) + 1).toNat = k + 1 := by omega
  go_region_with (first | (go_at_call 17; (with_reducible refine (HU.out _ (by exact tab_below hw ((B2.alloc hle _).drew) hz)).mono ?_); rintro e w3 ⟨rfl, rfl⟩))
  clear q0 q1 q2 q4 q5 s1 s2 hc1
  have B3 := (B2.alloc hle (.cells #[.int .u8 (bits .xor .u8 (((frameS p)[k].toNat : Nat) : Int) b)] 5)).drew
  go_wp2_with (first
    | (go_at_call 17; (with_reducible refine (un_cut p k _ (by exact tab_below hw B3 hz) h hk4 hk8).mono ?_); rintro e w4 ⟨rfl, rfl⟩)
    | (go_at_call 17; (with_reducible refine (un_whole p _ (by exact tab_below hw B3 hz) h).mono ?_); rintro e w4 ⟨rfl, rfl⟩))
  go_ret
  exact ⟨rfl, B3⟩
end Go.Proofs.YtpfcnppaancmfaaDoor.ce
