/- Bytes of a text: rows that may be written; carryOut. -/
import Derived.Test.YtikpchhhenonaaaLn
import Derived.Lib.ConvBytes
namespace Go.Proofs.Ytikpchhhenonaaa.lo
open Go.ChangeShapes Go.WideShapes Go.ChangeAt Go.RowKit Go.Proofs.Ytikpchhhenonaaa.cx Go.Proofs.Ytikpchhhenonaaa.ra Go.Proofs.Ytikpchhhenonaaa.la Go.Proofs.Ytikpchhhenonaaa.lb Go.Proofs.Ytikpchhhenonaaa.lc Go.Proofs.Ytikpchhhenonaaa.ld Go.Proofs.Ytikpchhhenonaaa.le Go.Proofs.Ytikpchhhenonaaa.lf Go.Proofs.Ytikpchhhenonaaa.lg Go.Proofs.Ytikpchhhenonaaa.lh Go.Proofs.Ytikpchhhenonaaa.li Go.Proofs.Ytikpchhhenonaaa.lj Go.Proofs.Ytikpchhhenonaaa.lk Go.Proofs.Ytikpchhhenonaaa.ll Go.Proofs.Ytikpchhhenonaaa.lm Go.Proofs.Ytikpchhhenonaaa.ln
open Go.Lib (bytesWorld bytesCells bytesWorld_at_old bytesWorld_at_new bytesWorld_size bytesWorld_cell)

/-- A row of 256 bytes that may be written. -/
structure BRow (b : Nat) (ns : List Int) (w : World) : Prop where
  lt : b < w.heap.size
  len : ns.length = 256
  cells : ∀ i, i < 256 → w.cell? ⟨b, i, none⟩ = some (.int .u8 (ns.getD i 0))
  free : ∀ i, i < 256 → w.frozen? ⟨b, i, none⟩ = false
theorem BRow.grown {b : Nat} {ns : List Int} {w w' : World} {row : Option Nat} (h : BRow b ns w) (hg : w.grownBy w' row) (hne : row ≠ some b) : BRow b ns w' :=
  ⟨Nat.lt_of_lt_of_le h.lt hg.size, h.len, fun i hi => (World.cell?_of_block (w := w) (a := ⟨b, i, none⟩) (hg.block b h.lt (fun e => hne e.symm))).trans (h.cells i hi),
    fun i hi => (World.frozen?_of_block (w := w) (a := ⟨b, i, none⟩) (hg.block b h.lt (fun e => hne e.symm))).trans (h.free i hi)⟩
theorem BRow.drew {b : Nat} {ns : List Int} {w : World} (h : BRow b ns w) : BRow b ns w.drew := ⟨h.lt, h.len, h.cells, h.free⟩
theorem BRow.set {b : Nat} {ns : List Int} {w : World} (h : BRow b ns w) (i : Nat) (hi : i < 256) (x : Int) : BRow b (ns.set i x) (w.setCell ⟨b, i, none⟩ (.int .u8 x)) := by
  have hl := h.len
  refine ⟨by rw [setCell_size]; exact h.lt, by rw [List.length_set]; exact h.len, fun k hk => ?_, fun k hk => by rw [World.frozen?_setCell]; exact h.free k hk⟩
  by_cases e : k = i
  · subst e
    rw [World.cell?_setCell_same (h := h.cells k hk)]
    simp [List.getD, List.getElem?_set_self (show k < ns.length by omega)]
  · rw [World.cell?_setCell_other (h := fun e' => e (by injection e' with _ e' _; exact e'.symm)), h.cells k hk]
    simp [List.getD, List.getElem?_set_ne (show i ≠ k by omega)]
/-- The bytes of a text as numbers. -/
def numsOf (s : ByteArray) : List Int := s.data.toList.map fun b => (b.toNat : Int)
theorem numsOf_length (s : ByteArray) : (numsOf s).length = s.size := by simp [numsOf]
theorem bytesWorld_below (w : World) (s : ByteArray) : Below w.heap.size w (bytesWorld w 5 s) :=
  ⟨by simp [bytesWorld, World.freeze]; rfl, by simp [bytesWorld, World.freeze], by simp [bytesWorld, World.freeze]; rfl, by rw [bytesWorld_size]; omega, fun k hk => bytesWorld_at_old w 5 s k hk⟩
theorem bytesWorld_row (w : World) (s : ByteArray) (hs : s.size = 256) : BRow w.heap.size (numsOf s) (bytesWorld w 5 s) := by
  refine ⟨by rw [bytesWorld_size]; omega, by rw [numsOf_length]; exact hs, fun i hi => ?_, fun i hi => ?_⟩
  · rw [bytesWorld_cell w 5 s i (by omega)]
    have hl : i < s.data.toList.length := by simpa using (by omega : i < s.size)
    simp [numsOf, List.getD, List.getElem?_eq_getElem hl]
  · have hb := bytesWorld_at_new w 5 s
    have hsz : i < (bytesCells w 5 s).size := by
      simp [bytesCells]
      have : s.data.size = 256 := hs
      omega
    unfold World.frozen?
    rw [hb]
    simp
    omega
theorem cap_ge (w : World) : 256 ≤ grownCap w 256 0 5 := grownCap_ge w 256 0 5
theorem conv_brow {b cap : Nat} {ns : List Int} {w : World} (h : BRow b ns w) : (convert 22 9 (.slice (some ⟨b, 0, none⟩) 256 cap)).run Try.prog w = .ok (.string (strOfNums ns)) w :=
  run_convert_bytes_arg (P := Try.prog) _ 22 5 Try.underlying22 Try.underlying5 b 0 256 cap ns h.len (fun i hi => by rw [Nat.zero_add]; exact h.cells i hi) 9 Try.underlying9
theorem strOfNums_len {ns : List Int} (h : ns.length = 256) : (strOfNums ns).size = 256 := by rw [strOfNums_size, h]

/-- What a write with this fate does. -/
def carryD (d : Dev) (k : Nat) (s : ByteArray) : What → Dev
  | .done => owrD d k s 256
  | .lost => d
  | .misdirected t => owrD d t.toNat s 256
  | .torn n => owrD d k s n.toNat
/-- The fate names a page, and a place in it. -/
def fateB (m : Nat) : What → Prop
  | .done => True
  | .lost => True
  | .misdirected t => 0 ≤ t ∧ t < (m : Int)
  | .torn n => 0 ≤ n ∧ n ≤ 256
set_option maxHeartbeats 4000000 in
set_option maxRecDepth 4000 in
theorem carryOut_any (B : Nat) (X : List Nat) (vp vu vf : Value) (d : Dev) (k : Nat) (s : ByteArray) (wh : What) (w : World) (h : Dv B X vp vu vf d w) (hk : k < d.pages.length) (hp : ∀ x ∈ d.pages, x.size = 256) (hs : s.size = 256) (hf : fateB d.pages.length wh) (hul : d.unr.length ≤ 1000) :
    Calls Try.prog 42 #[.pointer (some ⟨B, 0, none⟩), wh.val, .int .i64 (k : Int), .string s] w fun e w' => e = .returned (.tuple #[]) ∧ ∃ vu', Dv B X vp vu' vf (carryD d k s wh) w' ∧ vu'.ownBlock = vu.ownBlock ∧ Kp B X w w' := by
  have HH := Lib.hid h
  have HP := Lib.hid hp
  have HS := Lib.hid hs
  clear h hp hs
  have hat : ∀ j, j < d.pages.length → Hid (∃ old, d.pages[j]? = some old ∧ old.size = 256) := fun j hj => ⟨_, List.getElem?_eq_getElem hj, HP.out _ (List.getElem_mem hj)⟩
  cases wh with
  | done =>
    have HA := hat k hk
    clear hat hk
    obtain ⟨old, o1, o2⟩ := HA.out
    have O1 := Lib.hid o1
    have O2 := Lib.hid o2
    clear o1 o2 HA
    have t0 : ∀ w : World, (Instr.typeAssert (.iface 91 (.agg #[])) 20 86 true).run Try.prog w = .ok (.tuple #[.agg #[], .bool false]) w := fun w => by kernel_rfl
    have t1 : ∀ w : World, (Instr.typeAssert (.iface 91 (.agg #[])) 20 88 true).run Try.prog w = .ok (.tuple #[.agg #[.int .i64 0], .bool false]) w := fun w => by kernel_rfl
    have t2 : ∀ w : World, (Instr.typeAssert (.iface 91 (.agg #[])) 20 90 true).run Try.prog w = .ok (.tuple #[.agg #[.int .i64 0], .bool false]) w := fun w => by kernel_rfl
    have t3 : ∀ w : World, (Instr.typeAssert (.iface 91 (.agg #[])) 20 91 true).run Try.prog w = .ok (.tuple #[.agg #[], .bool true]) w := fun w => by kernel_rfl
    unfold What.val
    go_enter Try.func42, Try.ntmps42
    go_wp2_with (first
      | (go_at_call 55; refine (overwrite_any B X vp vu vf d k s 256 old _ (HH.out.keep (by first | exact Below.refl _ _ | exact (Below.refl _ _).alloc (Nat.le_refl _) _)) O1.out O2.out HS.out (by omega) hul).mono ?_; rintro e w1 ⟨rfl, vu', hD, hb, hK⟩; have D1 := Lib.hid hD; have B1 := Lib.hid hb; have K1 := Lib.hid (Kp.trans (HH.out.kp (by first | exact Below.refl _ _ | exact (Below.refl _ _).alloc (Nat.le_refl _) _)) hK); clear hD hb hK))
    go_end0
    exact ⟨rfl, vu', D1.out, B1.out, K1.out⟩
  | lost =>
    clear hat hk
    have t0 : ∀ w : World, (Instr.typeAssert (.iface 86 (.agg #[])) 20 86 true).run Try.prog w = .ok (.tuple #[.agg #[], .bool true]) w := fun w => by kernel_rfl
    unfold What.val
    go_enter Try.func42, Try.ntmps42
    go_wp2
    go_end0
    exact ⟨rfl, vu, HH.out.keep ((Below.refl _ _).alloc (Nat.le_refl _) _), rfl, HH.out.kp ((Below.refl _ _).alloc (Nat.le_refl _) _)⟩
  | misdirected t =>
    obtain ⟨f0, f1⟩ := hf
    obtain ⟨j, rfl⟩ : ∃ j : Nat, t = (j : Int) := ⟨t.toNat, by omega⟩
    have hj : j < d.pages.length := by omega
    have HA := hat j hj
    clear hat hk
    obtain ⟨old, o1, o2⟩ := HA.out
    have O1 := Lib.hid o1
    have O2 := Lib.hid o2
    clear o1 o2 HA
    have t0 : ∀ w : World, (Instr.typeAssert (.iface 88 (.agg #[.int .i64 (j : Int)])) 20 86 true).run Try.prog w = .ok (.tuple #[.agg #[], .bool false]) w := fun w => by kernel_rfl
    have t1 : ∀ w : World, (Instr.typeAssert (.iface 88 (.agg #[.int .i64 (j : Int)])) 20 88 true).run Try.prog w = .ok (.tuple #[.agg #[.int .i64 (j : Int)], .bool true]) w := fun w => by kernel_rfl
    unfold What.val
    go_enter Try.func42, Try.ntmps42
    go_wp2_with (first
      | (go_at_call 55; refine (overwrite_any B X vp vu vf d j s 256 old _ (HH.out.keep (by first | exact Below.refl _ _ | exact (Below.refl _ _).alloc (Nat.le_refl _) _)) O1.out O2.out HS.out (by omega) hul).mono ?_; rintro e w1 ⟨rfl, vu', hD, hb, hK⟩; have D1 := Lib.hid hD; have B1 := Lib.hid hb; have K1 := Lib.hid (Kp.trans (HH.out.kp (by first | exact Below.refl _ _ | exact (Below.refl _ _).alloc (Nat.le_refl _) _)) hK); clear hD hb hK))
    go_end0
    exact ⟨rfl, vu', D1.out, B1.out, K1.out⟩
  | torn t =>
    obtain ⟨f0, f1⟩ := hf
    obtain ⟨j, rfl⟩ : ∃ j : Nat, t = (j : Int) := ⟨t.toNat, by omega⟩
    have HA := hat k hk
    clear hat hk
    obtain ⟨old, o1, o2⟩ := HA.out
    have O1 := Lib.hid o1
    have O2 := Lib.hid o2
    clear o1 o2 HA
    have t0 : ∀ w : World, (Instr.typeAssert (.iface 90 (.agg #[.int .i64 (j : Int)])) 20 86 true).run Try.prog w = .ok (.tuple #[.agg #[], .bool false]) w := fun w => by kernel_rfl
    have t1 : ∀ w : World, (Instr.typeAssert (.iface 90 (.agg #[.int .i64 (j : Int)])) 20 88 true).run Try.prog w = .ok (.tuple #[.agg #[.int .i64 0], .bool false]) w := fun w => by kernel_rfl
    have t2 : ∀ w : World, (Instr.typeAssert (.iface 90 (.agg #[.int .i64 (j : Int)])) 20 90 true).run Try.prog w = .ok (.tuple #[.agg #[.int .i64 (j : Int)], .bool true]) w := fun w => by kernel_rfl
    unfold What.val
    go_enter Try.func42, Try.ntmps42
    go_wp2_with (first
      | (go_at_call 55; refine (overwrite_any B X vp vu vf d k s j old _ (HH.out.keep (by first | exact Below.refl _ _ | exact (Below.refl _ _).alloc (Nat.le_refl _) _)) O1.out O2.out HS.out (by omega) hul).mono ?_; rintro e w1 ⟨rfl, vu', hD, hb, hK⟩; have D1 := Lib.hid hD; have B1 := Lib.hid hb; have K1 := Lib.hid (Kp.trans (HH.out.kp (by first | exact Below.refl _ _ | exact (Below.refl _ _).alloc (Nat.le_refl _) _)) hK); clear hD hb hK))
    go_end0
    exact ⟨rfl, vu', D1.out, B1.out, K1.out⟩
end Go.Proofs.Ytikpchhhenonaaa.lo
