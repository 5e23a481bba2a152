/- Small lemmas that all layers use: the table below other blocks, bytes out of strings, slices of strings, a block known by its first values, the checksum of any text. -/
import Derived.Test.YtmlclccfmlcabaaDoorCg
import Derived.WalkLawsBesides
import Derived.Deep.RegionWith
namespace Go.Proofs.YtmlclccfmlcabaaDoor.ch
open Go.ChangeShapes Go.WideShapes Go.ChangeAt Go.RowKit Go.Proofs.YtmlclccfmlcabaaDoor.cm Go.Proofs.YtmlclccfmlcabaaDoor.cw Go.Proofs.YtmlclccfmlcabaaDoor.cp Go.Proofs.YtmlclccfmlcabaaDoor.cg

theorem tab_below {w w' : World} {B : Nat} (h : TabOk w) (hb : Below B w w') (hB : 0 < B) : TabOk w' :=
  fun k hk => (hb.cell (p := ⟨0, k, none⟩) hB).trans (h k hk)
theorem tab_size {w : World} (h : TabOk w) : 0 < w.heap.size := by
  have := h 0 (by decide)
  rcases Nat.eq_zero_or_pos w.heap.size with e | e
  · have hn : w.heap[0]? = none := by simp [e]
    simp [World.cell?, hn] at this
  · exact e
theorem uget_congr {s t : ByteArray} (a : Nat) : ∀ k : Nat, (∀ i, i < k → s.data.toList.getD (a + i) 0 = t.data.toList.getD (a + i) 0) → uget s a k = uget t a k
  | 0, _ => rfl
  | k + 1, h => by rw [uget, uget, uget_congr a k (fun i hi => h i (by omega)), h k (by omega)]
theorem uget_inj {s t : ByteArray} (a : Nat) : ∀ k : Nat, uget s a k = uget t a k → ∀ i, i < k → s.data.toList.getD (a + i) 0 = t.data.toList.getD (a + i) 0
  | 0, _, i, hi => by omega
  | k + 1, h, i, hi => by
    have h1 := uget_lt s a k
    have h2 := uget_lt t a k
    rw [uget, uget] at h
    have hp : 0 < 2 ^ (8 * k) := Nat.two_pow_pos _
    have d1 : (uget s a k + (s.data.toList.getD (a + k) 0).toNat * 2 ^ (8 * k)) / 2 ^ (8 * k) = (s.data.toList.getD (a + k) 0).toNat := by
      rw [Nat.add_mul_div_right _ _ hp, Nat.div_eq_of_lt h1, Nat.zero_add]
    have d2 : (uget t a k + (t.data.toList.getD (a + k) 0).toNat * 2 ^ (8 * k)) / 2 ^ (8 * k) = (t.data.toList.getD (a + k) 0).toNat := by
      rw [Nat.add_mul_div_right _ _ hp, Nat.div_eq_of_lt h2, Nat.zero_add]
    have e : (s.data.toList.getD (a + k) 0).toNat = (t.data.toList.getD (a + k) 0).toNat := by rw [← d1, ← d2, h]
    have h' : uget s a k = uget t a k := by rw [e] at h; omega
    by_cases hk : i = k
    · subst hk; exact UInt8.toNat_inj.1 e
    · exact uget_inj a k h' i (by omega)

theorem list_extract (s : ByteArray) (a b : Nat) : (s.extract a b).data.toList = (s.data.toList.take b).drop a := by
  simp [ByteArray.data_extract, List.drop_take]
theorem burst_one (l : List UInt8) (k : Nat) (hk : k < l.length) (b : UInt8) (h : crc l = crc (l.set k b)) : b = l[k] := by
  have e1 : l = l.take k ++ [l[k]] ++ l.drop (k + 1) := by
    rw [List.append_assoc, List.singleton_append, ← List.drop_eq_getElem_cons hk, List.take_append_drop]
  have e2 : l.set k b = l.take k ++ [b] ++ l.drop (k + 1) := by rw [List.set_eq_take_append_cons_drop, if_pos hk]; simp
  have h' : crc (l.take k ++ [l[k]] ++ l.drop (k + 1)) = crc (l.take k ++ [b] ++ l.drop (k + 1)) := by rw [← e1, ← e2]; exact h
  have := crc_burst _ _ (x := [l[k]]) (y := [b]) rfl (by simp) h'
  exact (List.cons.inj this).1.symm
theorem conv1d (W : World) (x : Int) : (convert 62 9 (.slice (some ⟨W.heap.size, 0, none⟩) 1 1)).run Tryd.prog (W.alloc (.cells #[.int .u8 x] 5)).drew = .ok (.string (strOfNums [x])) (W.alloc (.cells #[.int .u8 x] 5)).drew :=
  run_convert_bytes_arg (P := Tryd.prog) _ 62 5 Tryd.underlying62 Tryd.underlying5 W.heap.size 0 1 1 [x] rfl (fun i hi => by
    obtain rfl : i = 0 := by omega
    go_simp) 9 Tryd.underlying9
/-- The frame with byte k changed, as the law makes it. -/
def hurt (f : ByteArray) (k : Nat) (x : Int) : ByteArray := f.extract 0 k ++ strOfNums [x] ++ f.extract (k + 1) f.size

theorem bits_xor8 (a b : Nat) (ha : a < 256) (hb : b < 256) : bits .xor .u8 (a : Int) (b : Int) = ((a ^^^ b : Nat) : Int) := by
  have ha' : a % 2 ^ IntKind.u8.bits = a := Nat.mod_eq_of_lt ha
  have hb' : b % 2 ^ IntKind.u8.bits = b := Nat.mod_eq_of_lt hb
  have hx : a ^^^ b < 2 ^ 8 := Nat.xor_lt_two_pow ha hb
  simp only [bits, BitVec.ofInt_natCast, BitVec.toNat_xor, BitVec.toNat_ofNat, ha', hb']
  rw [IntKind.wrap_u8]
  omega
theorem xor_ne (a b : Nat) (hb : b ≠ 0) : a ^^^ b ≠ a := fun e => hb (xor_left_inj (c := a) (by rw [e, Nat.xor_zero]))
theorem hurt_list (f : ByteArray) (k : Nat) (x : Int) (hk : k < f.size) : (hurt f k x).data.toList = f.data.toList.set k (UInt8.ofNat x.toNat) := by
  have hkl : k < f.data.toList.length := by simpa using hk
  rw [List.set_eq_take_append_cons_drop, if_pos hkl]
  unfold hurt
  rw [ByteArray.data_append, ByteArray.data_append, Array.toList_append, Array.toList_append, list_extract, list_extract, List.drop_zero, strOfNums_data, List.take_of_length_le (show f.data.toList.length ≤ f.size by simp)]
  simp
theorem slice_to (s : ByteArray) (y : Int) (j : Nat) (hy : y = j) (h2 : j ≤ s.size) (W : World) :
    (Instr.slice 9 (.string s) none (some (.int .i64 y)) none).run Tryd.prog W = .ok (.string (s.extract 0 j)) W := by
  subst hy
  have := run_slice_string_h (P := Tryd.prog) W 9 s Tryd.underlying9 .i64 (j : Int) (by omega) (by omega)
  simpa using this
theorem slice_from (s : ByteArray) (x : Int) (i n : Nat) (hx : x = i) (h2 : i ≤ s.size) (hn : s.size = n) (W : World) :
    (Instr.slice 9 (.string s) (some (.int .i64 x)) none none).run Tryd.prog W = .ok (.string (s.extract i n)) W := by
  subst hx; subst hn
  have := run_slice_string_l (P := Tryd.prog) W 9 s Tryd.underlying9 .i64 (i : Int) (by omega) (by omega)
  simpa using this

theorem slice_s (s : ByteArray) (x y : Int) (i j : Nat) (hx : x = i) (hy : y = j) (h1 : i ≤ j) (h2 : j ≤ s.size) (W : World) :
    (Instr.slice 9 (.string s) (some (.int .i64 x)) (some (.int .i64 y)) none).run Tryd.prog W = .ok (.string (s.extract i j)) W := by
  subst hx; subst hy
  have := run_slice_string (P := Tryd.prog) W 9 s .i64 .i64 (i : Int) (j : Int) Tryd.underlying9 (by omega) (by omega) (by omega)
  simpa using this
theorem eq_nat (a b : Nat) (h : a = b) : ((a : Int) != (b : Int)) = false := by subst h; simp
theorem ne_nat (a b : Nat) (h : a ≠ b) : ((a : Int) != (b : Int)) = true := by
  have : (a : Int) ≠ b := by omega
  simpa using this

/-- Block b begins with these values. -/
def Has (b : Nat) (l : List Value) (w : World) : Prop := b < w.heap.size ∧ ∀ i v, l[i]? = some v → w.cell? ⟨b, i, none⟩ = some v
theorem Has.below {b : Nat} {l : List Value} {w w' : World} (h : Has b l w) (hb : Below w.heap.size w w') : Has b l w' :=
  ⟨Nat.lt_of_lt_of_le h.1 hb.size, fun i v hi => (hb.cell (p := ⟨b, i, none⟩) h.1).trans (h.2 i v hi)⟩
theorem Has.alloc {b : Nat} {l : List Value} {w : World} (h : Has b l w) (o : Obj) : Has b l (w.alloc o) := h.below ((Below.refl _ _).alloc (Nat.le_refl _) _)
theorem Has.new (l : List Value) (w : World) (t : TypeId) : Has w.heap.size l (w.alloc (.cells l.toArray t)) := by
  refine ⟨by simp, fun i v hi => ?_⟩
  have h2 : (w.alloc (.cells l.toArray t)).heap[w.heap.size]? = some (.cells l.toArray t) := by simp [World.alloc, -World.alloc_eq]
  unfold World.cell?
  simp only [h2]
  simpa using hi

def crcN (s : ByteArray) : Nat := crc s.data.toList
theorem crcN_lt (s : ByteArray) : crcN s < 4294967296 := crc_lt _
theorem sum_n (s : ByteArray) (w : World) (hs : s.size ≤ 1099511627776) (hw : TabOk w) :
    Calls Tryd.prog 28 #[.string s] w fun e w' => e = .returned (.int .u32 ((crcN s : Nat) : Int)) ∧ w = w' := sum_any s w (by unfold maxLen; omega) hw
end Go.Proofs.YtmlclccfmlcabaaDoor.ch
