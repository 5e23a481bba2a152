/- slices.Repeat of one text; the blank pages of the program. -/
import Derived.Test.YtikpchhhenonaaaLf
import Derived.Test.YtikpchhhenonaaaSr
import Derived.Shelf.Spec.SlicesInsert
namespace Go.Proofs.Ytikpchhhenonaaa.lg
open Go.ChangeShapes Go.WideShapes Go.ChangeAt Go.RowKit Go.Proofs.Ytikpchhhenonaaa.cx Go.Proofs.Ytikpchhhenonaaa.ra Go.Proofs.Ytikpchhhenonaaa.la Go.Proofs.Ytikpchhhenonaaa.lb Go.Proofs.Ytikpchhhenonaaa.lc Go.Proofs.Ytikpchhhenonaaa.ld

theorem wp_makeFullW {ops : Array Oper} {rest : List Oper} {o : Oper} {a : Act} {w : World} {Q : Exit → Act → World → Prop} {x y : Operand} (n : Nat) (t e : TypeId) (z : Value) (size bytes : Nat) (ht : Try.prog.underlying t = some (.slice e))
    (hi : ∃ i, Try.prog.info? e = some i ∧ i.zero = some z ∧ i.size = size ∧ i.bytes = bytes) (hn : n ≤ 100000) (hb : bytes ≤ 1000) (hsz : size ≤ 100) (ho : o.op = .makeSlice t x y)
    (hx : a.eval x = .int .i64 (n : Int)) (hy : a.eval y = .int .i64 (n : Int)) (hgd : Region.wanted o (yielded ops a.tmps) = true)
    (h : ∀ W, W.ownsRow w.heap.size e size (.slice (some ⟨w.heap.size, 0, none⟩) n n) n (madeCells z.cells (n * size)).toList → Below w.heap.size w W → w.heap.size < W.heap.size →
      wpList Try.prog ops Q rest (a.put o.dst (.slice (some ⟨w.heap.size, 0, none⟩) n n)) W) : wpList Try.prog ops Q (o :: rest) a w :=
  wpList_step fun _ hK => by
    rw [if_pos hgd]
    obtain ⟨i, hi0, hi1, hi2, hi3⟩ := hi
    have hbn : i.bytes * n ≤ 281474976710656 := by
      rw [hi3]
      exact Nat.le_trans (Nat.mul_le_mul hb hn) (by decide)
    obtain ⟨W, hr, hO, hg⟩ := run_makeSlice_full (P := Try.prog) w w.heap.size t e i z size ht hi0 hi1 hi2 .i64 .i64 n (Nat.le_trans (Nat.mul_le_mul hn hsz) (by decide)) hbn (by unfold maxLen; omega) (Nat.le_refl _)
    have hk := h W hO (grownBy_none_below hg) (hO.lt _ rfl).2
    unfold Oper.wp execOp
    simp only [ho]
    simp only [hx, hy, hr, Sem.run_bind, Result.andThen_ok, Sem.run_pure]
    exact hK _ _ hk
theorem copyOne (w : World) (g b c : Nat) (x : ByteArray) (hb : w.cell? ⟨b, 0, none⟩ = some (.string x)) (hc : 1 ≤ c) {base : Nat} {xs : List Value} (O : w.ownsRow base 9 1 (.slice (some ⟨g, 0, none⟩) c c) c xs) (ty : TypeId) (dc sc : Nat) :
    (Builtin.copy_ #[23, 23] ty #[.slice (some ⟨g, 0, none⟩) c dc, .slice (some ⟨b, 0, none⟩) 1 sc]).run Try.prog w = .ok (.int .i64 1) (w.setCells g 0 [.string x]) :=
  run_copy_cells w _ _ _ 9 g 0 c dc ⟨b, 0, none⟩ 1 sc [.string x] Try.underlying23 (by kernel_rfl) (by simp only [Nat.min_def, List.length_singleton]; split <;> omega)
    (fun j u hj => by
      match j, hj with
      | 0, hj => simp at hj; rw [← hj, Addr.add_lit]; exact hb)
    (fun j hj => by simp only [List.length_singleton] at hj; rw [O.cellAt _ (by omega), List.getElem?_eq_getElem (by rw [O.1]; omega)]; rfl) (fun j hj => O.frozenAt _) (fun u hu => by simp at hu; subst hu; rfl)
set_option maxHeartbeats 2000000 in
set_option maxRecDepth 4000 in
theorem repeat_str (b : Nat) (x : ByteArray) (c : Nat) (w : World) (h : w.cell? ⟨b, 0, none⟩ = some (.string x)) (hc1 : 1 ≤ c) (hc : c ≤ 1000) :
    Calls Try.prog 60 #[.slice (some ⟨b, 0, none⟩) 1 1, .int .i64 (c : Int)] w fun e w' => ∃ v, e = .returned v ∧ w'.ownsRow w.heap.size 9 1 v c (List.replicate c (.string x)) ∧ Below w.heap.size w w' := by
  have hbl := World.block_lt_of_cell? w _ h
  have HM : Hid (∀ W : World, Calls Try.prog 75 #[.int .u64 1, .int .u64 (c : Int)] W fun e w' => e = .returned (.tuple #[.int .u64 0, .int .u64 (c : Int)]) ∧ W = w') := Lib.hid fun W => by
    have := sr.bits_Mul 1 c (by decide) (by omega) W
    rw [Nat.one_mul, Nat.div_eq_of_lt (by omega), Nat.mod_eq_of_lt (by omega)] at this
    exact this.mono fun _ _ h => ⟨h.1, h.2.symm⟩
  have q0 : decide ((c : Int) < 0) = false := by simp
  have hcc : (0 : Int) ≤ (c : Int) := by omega
  have hsz : (Try.prog.info? 9).map (·.size) = some 1 := by kernel_rfl
  have mixed : Try.prog.follows .mixedOrders = true := by kernel_rfl
  have CC := Lib.hid h
  clear h
  go_enter Try.func60, Try.ntmps60
  go_wp2_with (first
    | (go_at_call 75; refine (HM.out _).mono ?_; rintro e w1 ⟨rfl, rfl⟩)
    | (refine wp_makeFullW c _ 9 (.string ByteArray.empty) 1 16 Try.underlying23 info_str (by omega) (by decide) (by decide) rfl rfl rfl rfl ?_; intro w2 hO hb2 hz2; have O2 := Lib.hid hO; have B2 := Lib.hid hb2; have C2 := Lib.hid ((hb2.cell (p := ⟨b, 0, none⟩) hbl).trans CC.out); have hcp := copyOne w2 w.heap.size b c x C2.out hc1 O2.out; clear hO hb2))
  have hO3 := own_setCells [Value.string x] 0 w2 _ O2.out
  have B3 := Lib.hid (ra.below_setCells w.heap.size (Nat.le_refl _) [Value.string x] 0 w2 B2.out)
  have O3 := Lib.hid hO3.1
  have X3 : Hid ((splice (madeCells (Value.string ByteArray.empty).cells (c * 1)).toList 0 [Value.string x])[0]? = some (.string x)) := Lib.hid (splice_get_in [Value.string x] _ 0 0 (by simp) (by have := O2.out.1; simp only [List.length_singleton]; omega))
  clear hO3 O2 B2 C2 hcp
  generalize w2.setCells w.heap.size 0 [Value.string x] = w3 at *
  generalize hg : w.heap.size = g at *
  have HG := Lib.hid hg
  clear hg
  go_loopw [8] (fun s8 wr => ∃ (kk : Nat) (xs : List Value), s8 = .int .i64 kk ∧ 1 ≤ kk ∧ kk ≤ c ∧ Hid (wr.ownsRow g 9 1 (.slice (some ⟨g, 0, none⟩) c c) c xs) ∧ Hid (Below g w wr) ∧ Hid (∀ j, j < kk → xs[j]? = some (.string x))) (fun s8 _ => c - (intOf s8).toNat)
  case atStart => exact ⟨1, _, rfl, Nat.le_refl _, hc1, O3, B3, Lib.hid fun j hj => by (obtain rfl : j = 0 := (by omega)); exact X3.out⟩
  case round =>
    obtain ⟨kk, xs, rfl, hk1, hkc, O4, B4, X4⟩ := hrel
    clear O3 B3 X3
    by_cases hlt : kk < c
    · have hltz : (kk : Int) < (c : Int) := by omega
      have k0 : (0 : Int) ≤ (kk : Int) := by omega
      have k1 : (kk : Int) ≤ (c : Int) := by omega
      have hck : ¬ c = kk := by omega
      have hxl := O4.out.1
      obtain ⟨m, hm⟩ : ∃ m, m = Nat.min kk (c - kk) := ⟨_, rfl⟩
      have hm1 : 1 ≤ m ∧ m ≤ kk ∧ kk + m ≤ c := by rw [hm]; simp only [Nat.min_def]; split <;> omega
      have hcp : ∀ ty dc sc, (Builtin.copy_ #[23, 23] ty #[.slice (some ⟨g, kk, none⟩) (c - kk) dc, .slice (some ⟨g, 0, none⟩) kk sc]).run Try.prog wr.drew = .ok (.int .i64 (m : Int)) (wr.drew.setCells g kk (List.replicate m (.string x))) := fun ty dc sc => by
        have := run_copy_cells (P := Try.prog) wr.drew 23 23 ty 9 g kk (c - kk) dc ⟨g, 0, none⟩ kk sc (List.replicate m (.string x)) Try.underlying23 hsz (by rw [List.length_replicate]; exact hm)
          (fun j u hj => by
            have hjm : j < m := by rcases Nat.lt_or_ge j m with h1 | h1; exact h1; rw [List.getElem?_eq_none (by rw [List.length_replicate]; exact h1)] at hj; cases hj
            rw [List.getElem?_replicate, if_pos hjm] at hj
            rw [Addr.add_lit, Nat.zero_add]
            show wr.cell? _ = _
            rw [O4.out.cellAt _ (by omega), X4.out j (by omega)]; exact hj)
          (fun j hj => by
            rw [List.length_replicate] at hj
            show (wr.cell? _).isSome = true
            rw [O4.out.cellAt _ (by omega), List.getElem?_eq_getElem (by omega)]; rfl) (fun j hj => O4.out.frozenAt _) (fun u hu => by rw [List.eq_of_mem_replicate hu]; rfl)
        rw [List.length_replicate] at this
        exact this
      have HM1 := Lib.hid hm1
      obtain ⟨W5, hW5⟩ : ∃ W5, W5 = wr.drew.setCells g kk (List.replicate m (.string x)) := ⟨_, rfl⟩
      have hO5 := own_setCells (List.replicate m (.string x)) kk wr.drew xs O4.out
      have B5 := Lib.hid (ra.below_setCells g (Nat.le_refl _) (List.replicate m (.string x)) kk wr.drew B4.out.drew)
      rw [← hW5] at hcp hO5 B5
      have O5 := Lib.hid hO5.1
      have X5 : Hid (∀ j, j < kk + m → (splice xs kk (List.replicate m (.string x)))[j]? = some (.string x)) := Lib.hid fun j hj => by
        rcases Nat.lt_or_ge j kk with h1 | h1
        · rw [splice_get_out _ _ _ _ (.inl h1)]; exact X4.out j h1
        · obtain ⟨t, rfl⟩ : ∃ t, j = kk + t := ⟨j - kk, by omega⟩
          rw [splice_get_in _ _ _ _ (by rw [List.length_replicate]; omega) (by rw [List.length_replicate]; omega), List.getElem?_replicate, if_pos (by omega)]
      clear hO5 hW5 hm hm1 O4 B4 X4
      go_wp2
      go_region_law_o (refine step_copy_runI rfl _ _ 23 23 rfl _ _ (by simp [Act.eval, Act.put]) (by simp [Act.eval, Act.put]) (hcp _ _ _) ?_)
      have hwr : IntKind.i64.wrap ((kk : Int) + (m : Int)) = ((kk + m : Nat) : Int) := by have := HM1.out; rw [IntKind.wrap_i64]; omega
      simp only [List.getElem_toArray, List.getElem_cons_zero, List.getElem_cons_succ, Act.put, List.setIfInBounds_toArray, List.set_cons_succ, List.set_cons_zero, hwr]
      go_roundw
      case measure => have := HM1.out; simp [intOf]; omega
      case rel => exact ⟨_, _, _, _, _, _, _, _, _, _, _, _, _, _, ⟨kk + m, _, rfl, by omega, HM1.out.2.2, O5, B5, X5⟩, rfl⟩
    · have hltz : ¬ (kk : Int) < (c : Int) := by omega
      obtain rfl : kk = c := by omega
      go_wp2
      go_ret
      refine ⟨_, rfl, ?_, by rw [HG.out]; exact B4.out⟩
      have : xs = List.replicate kk (.string x) := by
        apply List.ext_getElem?
        intro j
        rcases Nat.lt_or_ge j kk with h1 | h1
        · rw [X4.out j h1, List.getElem?_replicate, if_pos h1]
        · rw [List.getElem?_eq_none (by have := O4.out.1; omega), List.getElem?_eq_none (by rw [List.length_replicate]; exact h1)]
      rw [HG.out, ← this]
      exact O4.out
/-- 256 zero bytes. -/
def blank : ByteArray := ⟨(List.replicate 256 (0 : UInt8)).toArray⟩
theorem blank_size : blank.size = 256 := by
  show (List.replicate 256 (0 : UInt8)).toArray.size = 256
  rw [List.size_toArray, List.length_replicate]
theorem repeat_zero : ∀ n, (Lib.repeatL [0] n) = List.replicate n 0
  | 0 => rfl
  | n + 1 => by rw [Lib.repeatL, repeat_zero n]; rfl
theorem blank_is : (⟨(Lib.repeatL (⟨#[0]⟩ : ByteArray).data.toList 256).toArray⟩ : ByteArray) = blank := by
  unfold blank
  rw [repeat_zero]
theorem build_one (x : ByteArray) (W : World) : (Instr.buildSlice 23 1 #[(0, .string x)]).run Try.prog W = .ok (.slice (some ⟨W.heap.size, 0, none⟩) 1 1) (W.alloc (.cells #[.string x] 9)) := by
  kernel_rfl
def blanks (n : Nat) : List ByteArray := List.replicate n blank
theorem strL_blanks (n : Nat) : strL (blanks n) = List.replicate n (.string blank) := by simp [strL, blanks]
set_option maxRecDepth 4000 in
theorem blankPages_any (c : Nat) (w : World) (hc1 : 1 ≤ c) (hc : c ≤ 1000) :
    Calls Try.prog 35 #[.int .i64 (c : Int)] w fun e w' => ∃ v, e = .returned v ∧ w'.ownsRow w.heap.size 9 1 v c (strL (blanks c)) ∧ Below w.heap.size w w' := by
  have hr : ∀ W : World, Calls Try.prog 61 #[.string ⟨#[0]⟩, .int .i64 256] W fun e w' => e = .returned (.string blank) ∧ Below W.heap.size W w' := fun W => by
    have := sr.strings_Repeat_main ⟨#[0]⟩ 256 W (by decide) (by decide) (by decide) (by decide)
    rw [blank_is] at this
    exact this
  have HR := Lib.hid hr
  have hb1 := build_one blank
  have HC1 := Lib.hid hc1
  have HC := Lib.hid hc
  rw [strL_blanks]
  clear hr
  go_enter Try.func35, Try.ntmps35
  go_wp2_with (first
    | (go_at_call 61; (with_reducible refine (HR.out _).mono ?_); rintro e w1 ⟨rfl, hb1⟩; have B1 := Lib.hid hb1; clear hb1)
    | (go_at_call 60; refine (repeat_str _ blank c _ (by go_simp) HC1.out HC.out).mono ?_; rintro e w2 ⟨v, rfl, hO, hb2⟩; have O2 := Lib.hid hO; have B2 := Lib.hid hb2; clear hO hb2))
  go_ret
  refine ⟨_, rfl, own_base O2.out (by simp; exact Nat.le_succ_of_le B1.out.size), ?_⟩
  exact (B1.out.trans (((Below.refl _ _).alloc (Nat.le_refl _) _).mono B1.out.size)).trans (B2.out.mono (by simp; exact Nat.le_succ_of_le B1.out.size))
theorem validCount_any (n : Int) (w : World) :
    Calls Try.prog 34 #[.int .i64 n] w fun e w' => e = .returned (.bool (decide (1 ≤ n ∧ n ≤ 64))) ∧ w = w' := by
  by_cases h0 : 1 ≤ n
  · by_cases h1 : n ≤ 64
    · have hv : decide (1 ≤ n ∧ n ≤ 64) = true := decide_eq_true ⟨h0, h1⟩
      rw [hv]; clear hv
      go_enter Try.func34, Try.ntmps34
      go_wp2
      go_ret
      exact ⟨rfl, rfl⟩
    · have hv : decide (1 ≤ n ∧ n ≤ 64) = false := decide_eq_false (fun h => h1 h.2)
      rw [hv]; clear hv
      have hd : decide (n ≤ 64) = false := by simpa using h1
      go_enter Try.func34, Try.ntmps34
      go_wp2
      go_ret
      exact ⟨rfl, rfl⟩
  · have hv : decide (1 ≤ n ∧ n ≤ 64) = false := decide_eq_false (fun h => h0 h.1)
    rw [hv]; clear hv
    have hd : decide (1 ≤ n) = false := by simpa using h0
    go_enter Try.func34, Try.ntmps34
    go_wp2
    go_ret
    exact ⟨rfl, rfl⟩
end Go.Proofs.Ytikpchhhenonaaa.lg
